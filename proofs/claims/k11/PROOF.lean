import PyProof.Rows.All
import Wide.All
import OpenK.AllK
import Wide.FinOn
import PySem.Challenge.RW_gaithold_k11_term_texts
import HandS.ForMost
import HandS.Wide
import HandS.IsInst
import HandS.Zip
import HandS.Codes
import HandS.Defaults
import HandS.Codes
import HandS.Text
import HandS.StrMore
import HandS.FStr
import KE.IntTextLaws
import KE.IntTextText
import HandS.Style
import HandS.Deep
import HandS.Style
import HandS.TupAny
import HandS.Style
import HandS.IsInst
import HandS.Star
import HandS.Codes
import HandS.Text
import KE.GoesMore
import HandS.Strs
import HandS.SortKw
import HandS.Iter
import KE.GoesZip
set_option Elab.async false
set_option linter.all false
set_option maxRecDepth 100000
set_option maxHeartbeats 4000000
namespace EnT
open PySem PySem.Spec PyProof.Rows L2
/-- a fresh enumerate over the iterator at j -/
abbrev enO (j : Addr) : Obj := { cls := .type "enumerate", data := .fields #[.none, .bool false, .ref j, rawInt 0, .none, .none] }
theorem en_new {v : Value} {oi : Obj} {Hh : Heap → Prop} (B : Begins v oi Hh) :
    Meets (Builtin.«enumerate.__new__» ⟨[.type "enumerate", v], []⟩) (fun _ R s => Hh s.heap ∧ R (.ok (.ret (.ref (s.heap.push oi).objs.size))) { s with heap := (s.heap.push oi).push (enO s.heap.objs.size) }) :=
  .of_wp fun prog w A R s hyp => by
    obtain ⟨mem, gg, dd, tt, sys⟩ := s
    obtain ⟨okv, fin⟩ := hyp
    have hsub := sub_enumerate
    have step : ∀ {A2 : Around} {E2 : Value → Shared → Prop} {Q2 : Value → Shared → Prop}, Q2 (.ref mem.objs.size) ⟨mem.push oi, gg, dd, tt, sys⟩ → wpAny (model prog w) A2 (pyIter v) Q2 E2 ⟨mem, gg, dd, tt, sys⟩ :=
      fun z => B.iter prog w _ _ ⟨mem, gg, dd, tt, sys⟩ _ okv z
    wp_walk using step
    refine wpAny_stack_any fun _ => wpAny_pure ?_
    split
    · rename_i cc _ _ _ _ _
      cases (cc == Value.type "enumerate") <;> (wp_walk using step; exact ⟨_, rfl, fin⟩)
    · (wp_walk using step); exact ⟨_, rfl, fin⟩
theorem en_call {prog : Program} {w : World} {A : Around} {E : Value → Shared → Prop} {s : Shared} {v : Value} {oi : Obj} {Hh : Heap → Prop} {Q : Value → Shared → Prop} (B : Begins v oi Hh) (okv : Hh s.heap)
    (fin : ∀ h2, IsEnum h2 (s.heap.objs.size + 1) s.heap.objs.size 0 .none → h2.get? s.heap.objs.size = some oi → (∀ b o, s.heap.get? b = some o → h2.get? b = some o) → Q (.ref (s.heap.objs.size + 1)) { s with heap := h2 }) :
    wpAny (model prog w) A (call (.type "enumerate") [v]) Q E s := by
  refine callType_new F.called_enumerate (by decide) (F.typeCall_enumerate_1 v) (F.newCall_enumerate_1 v) (fun ob => F.args_object_init_2 ob v) F.entry_enumerate_new (en_new B) ⟨okv, ?_⟩
  have sz1 : (s.heap.push oi).objs.size = s.heap.objs.size + 1 := Heap.size_push ..
  have isE : IsEnum ((s.heap.push oi).push (enO s.heap.objs.size)) (s.heap.objs.size + 1) s.heap.objs.size 0 .none := by
    have g := Heap.get?_push_size (s.heap.push oi) (o := enO s.heap.objs.size) rfl
    rw [sz1] at g
    exact g
  show _ ∧ _
  rw [sz1]
  exact ⟨⟨_, isE, rfl⟩, fin _ isE (Heap.get?_push_of_some _ (Heap.get?_push_size _ B.free)) fun b o z => Heap.get?_push_of_some _ (Heap.get?_push_of_some _ z)⟩
/-- the tuple at t, each item in a new pair -/
def Iet (K : PySem.W.Frag) (t : Addr) : It :=
  ⟨fun i H => ∃ (xs : List V) (x : V), SqT K H t xs ∧ xs[i]? = some x, fun i H v H' => ∃ pr x, v = .ref pr ∧ H pr = none ∧ H' = upd H pr (.tup [.int (i : Nat), x]) ∧ ∀ xs, SqT K H t xs → xs[i]? = some x, fun i H => ∃ xs : List V, SqT K H t xs ∧ xs.length ≤ i⟩
theorem ne_it {h : Heap} {t it : Addr} {i : Nat} {its : Array Value} (a : h.IsTuple t its) (b : h.IsTupleIter it t i) : t ≠ it := fun z => by
  obtain ⟨o1, e1, c1, _⟩ := a
  obtain ⟨o2, e2, c2, _⟩ := b
  rw [z, e2] at e1
  cases e1
  rw [c1] at c2
  exact absurd (Value.type.inj c2) (by decide)
theorem turn_enT {P : Program} {w : World} {K : PySem.W.Frag} {elts : List Expr} {kk : Nat} {tpos : Pos} (t e it : Addr) :
    Turn P w K (.Tuple elts kk tpos) (Iet K t) [e, it] e (fun i h => (∃ old, IsEnum h e it ((i : Nat) : Int) old) ∧ h.IsTupleIter it t i ∧ e ≠ it ∧ e ≠ t) where
  mem := List.mem_cons_self
  obj := fun i h tn b hb => by
    obtain ⟨⟨_, he⟩, ⟨o, ho, _, hd⟩, _⟩ := tn
    rcases List.mem_cons.mp hb with z | z
    · rw [z]; exact ⟨_, he, fun v y => nomatch y⟩
    · rw [List.mem_singleton.mp z]; exact ⟨o, ho, fun v y => by rw [hd] at y; cases y⟩
  keep := fun i h h' tn kp => by
    obtain ⟨⟨old, he⟩, hi, n1, n2⟩ := tn
    exact ⟨⟨old, kp e (by simp) _ he⟩, hi.at fun o z => kp it (by simp) o z, n1, n2⟩
  item := by
    intro X hP hw hK hc i pins s σ H E I hf tn hg
    subst hP hw hK
    obtain ⟨⟨old, he⟩, hit, n1, n2⟩ := tn
    obtain ⟨xs, x, hq, hx⟩ := hg
    obtain ⟨its, rv, tp, _⟩ := I.tuple hq
    obtain ⟨u, hu, ru⟩ := rv.get hx
    have tp' : s.heap.IsTuple t its.toArray := tp
    have le : e < s.heap.objs.size := Heap.lt_size he
    have li : it < s.heap.objs.size := by obtain ⟨_, y, _⟩ := hit; exact Heap.lt_size y
    have hi : i < its.toArray.size := by
      have := (List.getElem?_eq_some_iff.mp hu).1
      simpa using this
    have hd : X.A.in1.handled = none := I.ok.hd hc
    refine wpAny_pyNext_enum_itemD (Draws.tuple hd it t (ne_it tp' hit) its.toArray) he ⟨hit, tp'⟩ hi n1 (fun z => ?_) fun y h2 tk hy ho hst hT hsz kp => ?_
    · rcases List.mem_cons.mp z with z | z
      · exact n1 z
      · exact n2 (List.mem_singleton.mp z)
    have ey : y = u := by
      have : its.toArray[i]? = some y := hy
      rw [List.getElem?_toArray, hu] at this
      exact (Option.some.inj this).symm
    subst ey
    refine ⟨_, rfl, wpAny_letOwnedTupleGo_enum (s := { s with heap := h2, toks := tk + 1 }) ho fun h3 he3 sb => ?_⟩
    have hT3 : h3.get? s.heap.objs.size = some { cls := .type "tuple", data := .seq #[.int i tk, y] } := (sb.2 _ (Nat.ne_of_gt le)).trans hT
    have made : ObjOk X.prog X.w (upd H s.heap.objs.size (.tup [.int (i : Nat), x])) h3 s.heap.objs.size (.tup [.int (i : Nat), x]) := ⟨by show 2 ≤ sizeLine; decide, [.int i tk, y], .cons ⟨_, rfl⟩ (.cons ru .nil), ⟨_, hT3, rfl, _, rfl⟩⟩
    have I3 : Inv X pins σ (upd H s.heap.objs.size (.tup [.int (i : Nat), x])) { s with heap := h3, toks := tk + 1 } :=
      I.turnedNew (ch := [e, it]) (fun b ob nb z => (sb.2 b (fun y => nb (by simp [y]))).trans (kp b ob (fun y => nb (by simp [y])) (fun y => nb (by simp [y])) z)) hf (Nat.le_refl _) made
    refine ⟨.ref s.heap.objs.size, _, I3, rfl, ⟨_, x, rfl, I.hok.fresh (Nat.le_refl _), rfl, fun ys hys => by rw [I.tuple_inj hys hq]; exact hx⟩, ⟨⟨y, ?_⟩, hst.1.at fun o z => (sb.2 it (Ne.symm n1)).trans z, n1, n2⟩, fun b hb => ?_⟩
    · rw [show ((i + 1 : Nat) : Int) = (i : Int) + 1 by omega]; exact he3
    · have lb : b < s.heap.objs.size := by
        rcases List.mem_cons.mp hb with z | z
        · rw [z]; exact le
        · rw [List.mem_singleton.mp z]; exact li
      rw [upd_ne (Nat.ne_of_lt lb)]
      exact (hf b hb).1
  done := by
    intro X hP hw hK hc i pins s σ H E I hf tn hg
    subst hP hw hK
    obtain ⟨⟨old, he⟩, hit, n1, n2⟩ := tn
    obtain ⟨xs, hq, hx⟩ := hg
    obtain ⟨its, rv, tp, _⟩ := I.tuple hq
    have tp' : s.heap.IsTuple t its.toArray := tp
    obtain ⟨f0, f1, f2, f3, f4, f5⟩ := hf it (by simp)
    have hl := rv.length
    have hd : X.A.in1.handled = none := I.ok.hd hc
    have dr := Draws.tuple (prog := X.prog) (w := X.w) hd it t (ne_it tp' hit) its.toArray
    have D2 : Draws X.prog X.w X.A.in1 it [it, t] i (fun _ _ => False) (fun j h => j = i ∧ h.IsTupleIter it t i ∧ h.IsTuple t its.toArray) :=
      { live := fun _ _ st => let ⟨o, ho, _⟩ := st.2.1; ⟨o, ho⟩
        frame := fun _ _ _ st hk => ⟨st.1, st.2.1.at fun o z => hk it (by simp) o z, st.2.2.at fun o z => hk t (by simp) o z⟩
        item := fun j s Q E hj st hQ => absurd st.1 (Nat.ne_of_lt hj)
        done := fun s Q E st hE => wpAny_nextOf_tuple_end hd st.2.1 st.2.2 (by simp; omega) hE }
    exact wpAny_pyNext_enum_endD D2 he ⟨rfl, hit, tp'⟩ fun h' eb => ⟨rfl, I.turned (t' := s.toks) (fun b o nb z => eb b o nb z) f0 f1 f3 f4 f5⟩
  self := fun A i s Q E tn z => let ⟨⟨_, he⟩, _⟩ := tn; wpAny_pyIter_enum he z
def iEnT (K : PySem.W.Frag) (ta : TA) : TI := fun σ H R => ta σ H fun vs H1 => ∃ t xs, vs = [.ref t] ∧ SqT K H1 t xs ∧ R (Iet K t) H1
theorem pi_enumT {X : Cx} {e : Expr} {ta : TA} {p pos tpos : Pos} {elts : List Expr} {kk : Nat} (hg : Gl X "enumerate") (hm : X.mg "enumerate" = none) (ha : PA X [e] ta) (hs : starEach [e] X.env = [(false, eval e X.env)] := by rfl) :
    PI X (.Tuple elts kk tpos) (.Call (.Name "enumerate" p) [e] [] pos) (iEnT X.K ta) := by
  refine ⟨fun pins s σ H R I h => ?_⟩
  refine Call_ (ld_blt I hg hm boot_enumerate (PyProof.Rows.callWith_type1 (thn (ha.run pos pins s σ H _ I h) fun us s1 ⟨vs, H1, I1, r1, q1⟩ => ?_) hs rfl))
  obtain ⟨t, xs, ev, hq, fin⟩ := q1
  subst ev
  cases r1 with
  | cons r rr =>
    cases rr
    cases r
    obtain ⟨its, rv, tp, _⟩ := I1.tuple hq
    have tp' : s1.heap.IsTuple t its.toArray := tp
    obtain ⟨ot, hot, _⟩ := id tp'
    refine en_call (begins_tuple t its.toArray) tp' fun h2 isE hit kp => wpAny_pyIter_enum isE ?_
    refine ⟨s1.heap.objs.size + 1, [s1.heap.objs.size + 1, s1.heap.objs.size], _, _, H1, rfl, I1.kept (t' := s1.toks) kp, turn_enT t (s1.heap.objs.size + 1) s1.heap.objs.size, ⟨⟨.none, isE⟩, ⟨_, hit, rfl, rfl⟩, Nat.succ_ne_self _, fun z => ?_⟩, fun b hb => ?_, fin⟩
    · have lt := Heap.lt_size hot
      rw [← z] at lt
      exact absurd lt (Nat.not_lt.mpr (Nat.le_succ _))
    · have lb : s1.heap.objs.size ≤ b := by
        rcases List.mem_cons.mp hb with z | z
        · rw [z]; exact Nat.le_add_right _ _
        · rw [List.mem_singleton.mp z]; exact Nat.le_refl _
      exact I1.fpOk lb (I1.hok.fresh lb)
theorem pi_or {X : Cx} {tg it : Expr} {w1 w2 : TI} (a : PI X tg it w1) (b : PI X tg it w2) : PI X tg it (fun σ H R => w1 σ H R ∨ w2 σ H R) := ⟨fun pins s σ H R I h => h.elim (a.run pins s σ H R I) (b.run pins s σ H R I)⟩
end EnT

namespace StT
open PySem PySem.Spec PyProof.Rows L2
/-- what is known of a set built of the first i texts -/
def Known (xs : List Str) (i : Nat) (S : Str → Bool) (m : Nat) : Prop := (∀ k, S k = (xs.take i).any (· == k)) ∧ m ≤ i ∧ (m = i → (xs.take i).Nodup)
theorem Known.more {xs : List Str} {i m : Nat} {S : Str → Bool} {x : Str} (h : Known xs i S m) (hx : xs[i]? = some x) : Known xs (i + 1) (fun k => S k || decide (k = x)) (if S x then m else m + 1) := by
  obtain ⟨h1, h2, h3⟩ := h
  have tk : xs.take (i + 1) = xs.take i ++ [x] := by rw [List.take_add_one, hx]; rfl
  refine ⟨fun k => ?_, ?_, fun e => ?_⟩
  · rw [tk, List.any_append, ← h1 k]
    congr 1
    by_cases q : k = x
    · subst q; simp
    · have : (x == k) = false := by simpa [beq_iff_eq] using fun z : x = k => q z.symm
      simp [q, this]
  · split <;> omega
  · cases q : S x with
    | true => rw [q] at e; simp at e; omega
    | false =>
      rw [q] at e
      have em : m = i := by simpa using e
      rw [tk, List.nodup_append]
      refine ⟨h3 em, by simp, fun u hu v hv => ?_⟩
      rw [List.mem_singleton.mp hv]
      intro z
      subst z
      have := h1 u
      rw [q] at this
      have hany : (xs.take i).any (· == u) = true := List.any_eq_true.mpr ⟨u, hu, by simp⟩
      rw [hany] at this
      cases this
section
variable {prog : Program} {w : World} {A : Around} {R : Result → Shared → Prop} {I : Addr} {fp wr : List Addr} {G : Array GenState → Array GenState → Prop} {n : Nat} {P : Nat → Value → Prop} {St : Nat → Shared → Prop}
theorem fill (W : WalksS prog w A.in1 I fp wr G n P St) (S : Addr) (nS : S ∉ fp) (xs : List Str) (hn : xs.length = n) (small : n ≤ 1000) (hv : ∀ i v, P i v → ∃ t, v = .str (xs.getD i Str.empty) t) :
    ∀ (k i : Nat) (s : Shared) (F : Str → Bool) (m : Nat), n - i = k → i ≤ n → St i s → s.heap.SetOf (PySem.strKind prog w) S F m → Known xs i F m →
      (∀ s' F' m', Moved (S :: wr) G s s' → s'.heap.SetOf (PySem.strKind prog w) S F' m' → Known xs n F' m' → R (.ok (.ret .none)) s') → codeAny (model prog w) A (.builtin "set.update.loop" ⟨[.ref S, .ref I], []⟩) R s := by
  have nW : S ∉ wr := fun z => nS (W.sub _ z)
  have up : ∀ b ∈ wr, b ∈ S :: wr := fun b z => List.mem_cons_of_mem _ z
  intro k
  induction k with
  | zero =>
    intro i s F m hk hi hst hS hK fin
    obtain rfl : i = n := by omega
    refine codeAny_builtin PyProof.Rows.F.entry_set_update_loop ?_
    rw [Around.under_plainId PyProof.Rows.F.plain_set_update_loop _]
    refine wpAny_bind (W.done s _ _ hst fun s1 mv => wpAny_pure (fin s1 F m (mv.mono up) ?_ hK))
    obtain ⟨o, es, ep, tb, ho, more⟩ := hS; exact ⟨o, es, ep, tb, mv.heap S _ nW ho, more⟩
  | succ k ih =>
    intro i s F m hk hi hst hS hK fin
    have lt : i < n := by omega
    refine codeAny_builtin PyProof.Rows.F.entry_set_update_loop ?_
    rw [Around.under_plainId PyProof.Rows.F.plain_set_update_loop _]
    refine wpAny_bind (W.item i s _ _ lt hst fun v s1 hP st1 mv => ?_)
    obtain ⟨tt, rfl⟩ := hv i v hP
    have S1 : s1.heap.SetOf (PySem.strKind prog w) S F m := by obtain ⟨o, es, ep, tb, ho, more⟩ := hS; exact ⟨o, es, ep, tb, mv.heap S _ nW ho, more⟩
    have mi := hK.2.1
    refine wpAny_bind (wpAny_holding ?_)
    unfold setAdd
    refine wpAny_holding (wpAny_bind ((PySem.strKind prog w).pyHash (k := xs.getD i Str.empty) (strKind_is _ _ _ _) ?_))
    refine wpAny_setAddHashed_of (knd := PySem.strKind prog w) (s := { s1 with toks := s1.toks + 1 }) (strKind_is _ _ _ _) rfl S1 (by unfold scanBound; omega) fun h2 sb S2 => ?_
    have hx : xs[i]? = some (xs.getD i Str.empty) := by
      have l : i < xs.length := by omega
      rw [List.getElem?_eq_getElem l, List.getD_eq_getElem?_getD, List.getElem?_eq_getElem l]; rfl
    have away : ∀ b ∈ fp, b ≠ S := fun b hb z => nS (by rw [← z]; exact hb)
    refine wpAny_pure ⟨plainId_quiet PyProof.Rows.F.plain_set_update_loop _, ih (i + 1) _ _ _ (by omega) lt (W.frame _ s1 _ _ st1 (Nat.le_succ _) fun b hb o z => (sb.2 b (away b hb)).trans z) S2 (hK.more hx) fun s3 F3 m3 mv3 S3 K3 => ?_⟩
    exact fin s3 F3 m3 (Moved.trans W.gtrans ((mv.mono up).then_heap (Nat.le_succ _) fun b o hb z => (sb.2 b (fun y : b = S => hb (by rw [y]; exact List.mem_cons_self))).trans z) mv3) S3 K3
end
section
variable {prog : Program} {w : World} {A : Around} {E : Value → Shared → Prop} {s : Shared}
abbrev set0 (led : Bool) : Obj := { cls := .type "set", dict := none, data := .set #[] 0 (.fresh 0 0 led) }
set_option maxHeartbeats 3200000 in
theorem set_texts {l : Addr} {items : Array Value} {xs : List Str} {Q : Value → Shared → Prop} (hh : A.handled = none) (hl : s.heap.IsList l items) (hi : PyProof.Rows.StrsAre items.toList xs) (small : xs.length ≤ 1000)
    (fin : ∀ (h2 : Heap) (tk : Nat) (F : Str → Bool) (m : Nat), h2.SetOf (PySem.strKind prog w) s.heap.objs.size F m → Known xs xs.length F m → (∀ b o, b < s.heap.objs.size → s.heap.get? b = some o → h2.get? b = some o) → Q (.ref s.heap.objs.size) { s with heap := h2, toks := tk }) :
    wpAny (model prog w) A (call (.type "set") [.ref l]) Q E s := by
  obtain ⟨c, tl, hmro⟩ := PySem.F.called_set.mro
  have hmade := PySem.F.called_set.made; have hsub := PySem.F.called_set.sub
  refine wpAny_call (codeAny_of_tree ?_)
  show wpAny _ _ (callAny (.type "set") _) _ _ _
  refine wpAny_pure ⟨Code.quiet_builtin _ (by decide +kernel), codeAny_builtin PySem.F.entry_type_call ?_⟩
  rw [Around.under_plain (weight_type_call_type "set" [.ref l] []) rfl]
  have e1 := PySem.F.called_set.notType; have e2 := PySem.F.called_set.canCreate; have e3 := PySem.F.typeCall_set_1 (.ref l)
  repeat (any_goals (first | assumption | wp_step))
  refine codeAny_mono (code_set_new_1 (.ref l) (E := E) (Q₁ := fun ob s1 => ∃ led : Bool, ob = .ref s.heap.objs.size ∧ s1 = { s with heap := s.heap.push (set0 led) }) fun led => ⟨led, rfl, rfl⟩) fun r s1 hr => ?_
  cases r with
  | error e => exact hr
  | ok fl =>
    cases fl with
    | ret ob =>
      obtain ⟨led, rfl, rfl⟩ := hr
      have at0 : (s.heap.push (set0 led)).get? s.heap.objs.size = some (set0 led) := Heap.get?_push_size _ rfl
      have ty : Shared.TypeIs { s with heap := s.heap.push (set0 led) } (.ref s.heap.objs.size) "set" := ⟨_, at0, rfl⟩
      have i1 := PySem.F.called_set.init.lookup; have i2 := PySem.F.called_set.init.bind (.ref s.heap.objs.size)
      repeat (any_goals (first | assumption | wp_step))
      refine codeAny_mono (codeAny_call_builtin (R := wants (fun r s2 => r = .none ∧ ∃ h2 tk F m, s2 = { s with heap := h2, toks := tk } ∧ h2.SetOf (PySem.strKind prog w) s.heap.objs.size F m ∧ Known xs xs.length F m ∧
          (∀ b o, b < s.heap.objs.size → s.heap.get? b = some o → h2.get? b = some o)) E) PySem.F.called_set.init.plain PySem.F.entry_set_init (check_set_init_1 ty ?_)) fun r2 s2 hr2 => ?_
      · obtain ⟨⟨oc, odc, odt, osl⟩, hol, hcl, nl, hdl⟩ := hl
        simp only at hcl hdl
        subst hcl hdl
        have hol1 : (s.heap.push (set0 led)).get? l = some { cls := .type "list", dict := odc, data := .seq items nl, slots := osl } := Heap.get?_push_of_some _ hol
        have z1 := PySem.F.sub_list_set; have z2 := PySem.F.sub_list_frozenset
        have z3 : (Value.type "list" == Value.type "dict") = false := by decide
        have hl1 : (s.heap.push (set0 led)).IsList l items := ⟨_, hol1, rfl, nl, rfl⟩
        unfold Builtin.«set.__init__» noKeywords Builtin.Frozenset.updateFrom
        generalize hPI : pyIter = PI; wp_walk; subst hPI
        refine wpAny_pyIter_list hl1 (wpAny_bind (wpAny_runValue ?_))
        have lS : l < s.heap.objs.size := Heap.lt_size hol
        have hh3 : A.in1.in1.in1.handled = none := by simp [hh]
        have szp : (s.heap.push (set0 led)).objs.size = s.heap.objs.size + 1 := Heap.size_push ..
        have nI : l ≠ (s.heap.push (set0 led)).objs.size := by rw [szp]; exact Nat.ne_of_lt (Nat.lt_succ_of_lt lS)
        have nS : s.heap.objs.size ∉ [(s.heap.push (set0 led)).objs.size, l] := by
          rw [szp]; intro z
          rcases List.mem_cons.mp z with z | z
          · exact absurd z (Nat.ne_of_lt (Nat.lt_succ_self _))
          · exact absurd (List.mem_singleton.mp z) (Nat.ne_of_gt lS)
        have len : xs.length = items.size := by rw [← StrsAre.len_eq hi, Array.length_toList]
        have val : ∀ (i : Nat) (v : Value), items[i]? = some v → ∃ t, v = .str (xs.getD i Str.empty) t := fun i v z => SS.strs_at hi i v (by rw [Array.getElem?_toList]; exact z)
        refine fill ((Walks.list hh3 _ l nI items).toS) s.heap.objs.size nS xs len (by rw [← len]; exact small) val (items.size - 0) 0 _ (fun _ => false) 0 (by omega) (Nat.zero_le _) ⟨⟨_, Heap.get?_push_size _ rfl, rfl, rfl⟩, (hl1.push _)⟩ ?_ ⟨fun _ => rfl, Nat.le_refl _, fun _ => List.nodup_nil⟩ ?_
        · exact (PyProof.Rows.setObjOf_fresh (knd := PySem.strKind prog w) led).setOf (Heap.get?_push_of_some _ at0) (by unfold scanBound; omega)
        · intro s3 F3 m3 mv S3 K3
          obtain ⟨h3, g3, d3, t3, o3⟩ := s3
          obtain rfl : g3 = s.gens := mv.gens
          obtain rfl : d3 = s.drawn := mv.drawn
          obtain rfl : o3 = s.os := mv.os
          refine wpAny_pure (wpAny_pure ⟨rfl, h3, t3, F3, m3, rfl, S3, by rw [len]; exact K3, fun b o hb z => ?_⟩)
          refine mv.heap b o (fun y => ?_) (Heap.get?_push_of_some _ (Heap.get?_push_of_some _ z))
          rcases List.mem_cons.mp y with y | y
          · exact absurd y (Nat.ne_of_lt hb)
          · have y' := List.mem_singleton.mp y
            rw [szp] at y'
            exact absurd y' (Nat.ne_of_lt (Nat.lt_succ_of_lt hb))
      · cases r2 with
        | error e => exact hr2
        | ok fl2 =>
          cases fl2 with
          | ret r =>
            obtain ⟨rfl, h2, tk, F, m, rfl, S2, K2, kp⟩ := hr2
            repeat (any_goals (first | assumption | wp_step))
            exact fin _ _ _ _ S2 K2 kp
          | _ => exact hr2.elim
    | _ => exact hr.elim
end
/-- len(set(xs)) of a list of texts -/
def tLenSetT (K : PySem.W.Frag) (ta : TE) : TE := fun σ H Q => ta σ H fun x H1 => ∃ l, ∃ xs : List Str, x = .ref l ∧ SqL K H1 l (xs.map V.str) ∧ xs.length ≤ 1000 ∧ ∀ m : Nat, m ≤ xs.length → (m = xs.length → xs.Nodup) → Q (.int m) H1
theorem pe_lenSetT {X : Cx} {e : Expr} {ta : TE} {p p2 q pos : Pos} (hc : X.calm = true) (hg : Gl X "len") (hm : X.mg "len" = none) (hg2 : Gl X "set") (hm2 : X.mg "set" = none) (ha : PE X e ta)
    (na : starEach [e] X.env = (false, eval e X.env) :: starEach [] X.env := by rfl) : PE X (.Call (.Name "len" p) [.Call (.Name "set" p2) [e] [] q] [] pos) (tLenSetT X.K ta) := by
  refine ⟨fun pins s σ H Q I h => ?_⟩
  refine Call_ (ld_blt I hg hm boot_len (PyProof.Rows.callWith_builtin1 (PyProof.Rows.args_cons ?_ rfl) rfl rfl))
  refine Call_ (ld_blt I hg2 hm2 boot_set ?_)
  refine PyProof.Rows.callWith_type1 (PyProof.Rows.args_cons (thn (ha.run pins s σ H _ I h) fun v s1 ⟨x, H1, I1, r1, q1⟩ => PyProof.Rows.args_nil ?_) na) na rfl
  obtain ⟨l, xs, rfl, hq, small, q1⟩ := q1
  cases r1
  obtain ⟨its, rv, pl, hz⟩ := I1.list hq
  refine set_texts (I1.ok.hd hc) pl.isList (by simpa using strsAre_of rv) small fun h2 tk F m S2 K2 kp => PyProof.Rows.args_nil ?_
  obtain ⟨o, es, ep, t, ho, hex, hd, _, _, _, hf, hn⟩ := S2
  have I2 : Inv X pins σ H1 { s1 with heap := h2, toks := tk } := I1.kept fun b o z => kp b o (Heap.lt_size z) z
  have k1 := K2.2.1
  refine call_len_set ho hex hd hf (by rw [hn]; omega) ⟨.int m, H1, I2.tok _, ⟨_, by rw [hn]⟩, q1 m k1 fun z => ?_⟩
  have := K2.2.2 z
  rwa [List.take_length] at this
end StT

namespace MxD
open PySem PySem.Spec PyProof.Rows L2
/-! max(xs, default=d) of a list of ints -/
theorem name_loop : (toString "max" ++ toString ".loop" : String) = "max.loop" := by decide
abbrev best0 (vs : Array Value) (c : Nat) : Obj := { cls := .type "list", dict := none, data := .seq vs c, slots := #[] }
section
variable {prog : Program} {w : World} {A : Around} {R : Result → Shared → Prop} {I : Addr} {fp wr : List Addr} {n : Nat} {P : Nat → Value → Prop} {St : Nat → Heap → Prop}
theorem turns (Wk : Walks prog w A.in1 I fp wr n P St) (bt : Nat → Nat → Bool) (cmp : CmpOf prog w A.in1 .Gt P bt) (S : Addr) (nS : S ∉ fp) (kw : List (Str × Value)) :
    ∀ (k j : Nat) (s : Shared) (u : Value) (c : Nat), n - (j + 1) = k → j + 1 ≤ n → St (j + 1) s.heap → P (argBest bt j) u → s.heap.get? S = some (best0 #[u, u] c) →
      (∀ v h2 tk, P (argBest bt (n - 1)) v → (∀ b o, b ∉ wr → b ≠ S → s.heap.get? b = some o → h2.get? b = some o) → R (.ok (.ret v)) { s with heap := h2, toks := tk }) →
      codeAny (model prog w) A (.builtin "max.loop" ⟨[.ref I, .none, .ref S], kw⟩) R s := by
  have nW : S ∉ wr := fun z => nS (Wk.sub _ z)
  intro k
  induction k with
  | zero =>
    intro j s u c hk hj st hu hS fin
    have e : j + 1 = n := by omega
    refine codeAny_builtin F.entry_max_loop ?_; rw [Around.under_plainId F.plain_max_loop _]
    refine wpAny_bind (wpAny_seqItems hS rfl (wpAny_bind (wpAny_tryCatch (Wk.done s _ _ (e ▸ st) fun h2 tk kp => ?_))))
    have S2 := kp S _ nW hS
    refine wpAny_bind (wpAny_updateSeq S2 rfl (wpAny_bind (wpAny_letGo (wpAny_pure ?_))))
    exact fin u _ tk (by rw [← e]; exact hu) fun b o nb nbS z => (Heap.get?_update_other _ _ (Ne.symm nbS)).trans (kp b o nb z)
  | succ k ih =>
    intro j s u c hk hj st hu hS fin
    have lt : j + 1 < n := by omega
    refine codeAny_builtin F.entry_max_loop ?_; rw [Around.under_plainId F.plain_max_loop _]
    refine wpAny_bind (wpAny_seqItems hS rfl (wpAny_bind (wpAny_tryCatch (Wk.item (j + 1) s _ _ lt st fun v h2 tk hP st2 kp => ?_))))
    have S2 := kp S _ nW hS
    show wpAny _ A.in1 (tryCatch (holding [v, v] (richCompare .Gt v u >>= _)) _ >>= _) _ _ _
    refine wpAny_bind (wpAny_tryCatch (wpAny_holding (wpAny_bind (cmp (j + 1) (argBest bt j) v u _ _ _ hP hu ?_))))
    refine wpAny_bind (wpAny_holding (wpAny_truthy_bool (wpAny_bind (wpAny_letGo (wpAny_pure ?_)))))
    cases hb : bt (j + 1) (argBest bt j) with
    | true =>
      simp only [if_true]
      refine wpAny_bind (wpAny_updateSeq S2 rfl (wpAny_bind (wpAny_letGo ?_))); rw [name_loop]
      refine wpAny_pure ⟨plainId_quiet F.plain_max_loop _, ih (j + 1) _ v _ (by omega) lt (Wk.frame _ _ _ st2 fun b hbf o z => ?_) (by simp only [argBest, hb, if_true]; exact hP) (Heap.get?_update_self _ S2 rfl) fun v3 h3 t3 P3 kp3 => ?_⟩
      · exact (Heap.get?_update_other _ _ (fun y : S = b => nS (by rw [y]; exact hbf))).trans z
      · exact fin v3 h3 t3 P3 fun b o nb nbS z => kp3 b o nb nbS ((Heap.get?_update_other _ _ (Ne.symm nbS)).trans (kp b o nb z))
    | false =>
      simp only [Bool.false_eq_true, if_false]
      refine wpAny_bind (wpAny_letGo ?_); rw [name_loop]
      refine wpAny_pure ⟨plainId_quiet F.plain_max_loop _, ih (j + 1) _ u c (by omega) lt st2 (by simp only [argBest, hb, Bool.false_eq_true, if_false]; exact hu) S2 fun v3 h3 t3 P3 kp3 => ?_⟩
      exact fin v3 h3 t3 P3 fun b o nb nbS z => kp3 b o nb nbS (kp b o nb z)
theorem firstT (Wk : Walks prog w A.in1 I fp wr n P St) (bt : Nat → Nat → Bool) (cmp : CmpOf prog w A.in1 .Gt P bt) (S : Addr) (nS : S ∉ fp) (nm : Str) (d : Value) {s : Shared} {c : Nat} (st : St 0 s.heap) (hS : s.heap.get? S = some (best0 #[] c))
    (fin : ∀ v h2 tk, (n = 0 → v = d) → (0 < n → P (argBest bt (n - 1)) v) → (∀ b o, b ∉ wr → b ≠ S → s.heap.get? b = some o → h2.get? b = some o) → R (.ok (.ret v)) { s with heap := h2, toks := tk }) :
    codeAny (model prog w) A (.builtin "max.loop" ⟨[.ref I, .none, .ref S], [(nm, d)]⟩) R s := by
  have nW : S ∉ wr := fun z => nS (Wk.sub _ z)
  refine codeAny_builtin F.entry_max_loop ?_; rw [Around.under_plainId F.plain_max_loop _]
  refine wpAny_bind (wpAny_seqItems hS rfl (wpAny_bind (wpAny_tryCatch ?_)))
  by_cases hn : n = 0
  · refine Wk.done s _ _ (hn ▸ st) fun h2 tk kp => ?_
    refine wpAny_bind (wpAny_rule (wpAny_pure ?_))
    exact fin d h2 tk (fun _ => rfl) (fun z => absurd hn (by omega)) fun b o nb _ z => kp b o nb z
  · refine Wk.item 0 s _ _ (by omega) st fun v h2 tk hP st2 kp => ?_
    have S2 := kp S _ nW hS
    show wpAny _ A.in1 (updateSeq S (fun _ => #[v, v]) >>= _) _ _ _
    refine wpAny_bind ?_; refine wpAny_updateSeq S2 rfl ?_; rw [name_loop]
    refine wpAny_pure ⟨plainId_quiet F.plain_max_loop _, turns Wk bt cmp S nS _ _ 0 _ v _ rfl (by omega) (Wk.frame _ _ _ st2 fun b hbf o z => ?_) hP (Heap.get?_update_self _ S2 rfl) fun v3 h3 t3 P3 kp3 => ?_⟩
    · exact (Heap.get?_update_other _ _ (fun y : S = b => nS (by rw [y]; exact hbf))).trans z
    · exact fin v3 h3 t3 (fun z => absurd z hn) (fun _ => P3) fun b o nb nbS z => kp3 b o nb nbS ((Heap.get?_update_other _ _ (Ne.symm nbS)).trans (kp b o nb z))
end
section
variable {prog : Program} {w : World} {A : Around} {E : Value → Shared → Prop} {s : Shared}
theorem args_kw (a d : Value) : argsOk "max" ⟨[a], [("default", d)]⟩ := by unfold argsOk; kernel_rfl
theorem tree_kw {id : String} {b : Builtin} {args : List Value} {kw : List (Str × Value)} {Q : Value → Shared → Prop} (hk : builtinKind id = none) (hp : plainId id = true) (hb : entryFor table id = some b) (ha : argsOk id ⟨args, kw⟩)
    (hc : wpAny (model prog w) A.in1 (b ⟨args, kw⟩) (fun f s2 => match f with
      | .done g => (match (Except.ok g : Result) with | .ok (.ret v) => Q v s2 | .ok _ => False | .error e => E e s2)
      | .again c2 => c2.quiet = true ∧ codeAny (model prog w) A c2 (fun r s2 => match r with | .ok (.ret v) => Q v s2 | .ok _ => False | .error e => E e s2) s2) E s) : wpAny (model prog w) A (call (.builtin id) args kw) Q E s := by
  refine wpAny_call (codeAny_call_builtin hp hb ?_); simp only [checkBuiltinCall, hk]
  cases sg : Manifest.signature? id with
  | none => exact wpAny_pure hc
  | some q =>
    simp only [argsOk, sg] at ha
    have ok : Bind.checkArgs id q ⟨args, kw⟩ = pure () := ha
    show wpAny _ A.in1 (Bind.checkArgs id q ⟨args, kw⟩) _ _ s
    rw [ok]
    exact wpAny_pure hc
theorem max_dflt {l : Addr} {xs : Array (Int × Tok)} {d : Value} {Q : Value → Shared → Prop} (hh : A.handled = none) (hl : s.heap.IsList l (intItems xs))
    (fin : ∀ v h2 tk, (xs.size = 0 → v = d) → (0 < xs.size → (intItems xs)[argBest (fun i j => decide (numAt xs i > numAt xs j)) (xs.size - 1)]? = some v) → (∀ b o, s.heap.get? b = some o → h2.get? b = some o) → Q v { s with heap := h2, toks := tk }) :
    wpAny (model prog w) A (call (.builtin "max") [.ref l] [("default", d)]) Q E s := by
  refine tree_kw F.kind_max F.plain_max F.entry_max (args_kw _ _) ?_
  show wpAny _ A.in1 (Builtin.Builtins.bindParams "max" ["key", "default"] 0 ⟨[], [("default", d)]⟩ >>= _) _ _ s
  refine wpAny_bind (wpAny_of_eq (show Builtin.Builtins.bindParams "max" ["key", "default"] 0 ⟨[], [("default", d)]⟩ = pure [none, some d] from rfl) ?_)
  refine wpAny_bind (wpAny_pure (wpAny_bind (iter_intList hl fun s2 e st inb ne => ?_)))
  refine wpAny_bind (wpAny_newObj_type ?_)
  have nS : s2.heap.objs.size ∉ [s.heap.objs.size, l] := fun z => Nat.lt_irrefl _ (inb _ z)
  rw [name_loop]
  have Wk := Walks.list (prog := prog) (w := w) (A := A.in1) hh s.heap.objs.size l ne (intItems xs)
  refine wpAny_pure ⟨plainId_quiet F.plain_max_loop _, firstT Wk (fun i j => decide (numAt xs i > numAt xs j)) (CmpOf.ints_gt (numAt xs) (fun _ _ => intItems_at)) s2.heap.objs.size nS "default" d (Wk.frame _ _ _ st fun b _ o z => Heap.get?_push_of_some _ z) (Heap.get?_push_size _ rfl) fun v h2 tk v0 v1 kp => ?_⟩
  have sz : (intItems xs).size = xs.size := by simp [intItems]
  rw [sz] at v0 v1
  subst e
  refine fin v h2 tk v0 v1 fun b o z => ?_
  have lb := Heap.lt_size z
  refine kp b o (fun y => ?_) (fun y => ?_) (Heap.get?_push_of_some _ (Heap.get?_push_of_some _ z))
  · rw [List.mem_singleton.mp y] at lb; exact Nat.lt_irrefl _ lb
  · rw [y] at lb
    have : (s.heap.push { cls := .type "list_iterator", data := .fields #[.ref l, .int 0 0] }).objs.size = s.heap.objs.size + 1 := Heap.size_push ..
    have lb' : (s.heap.push { cls := .type "list_iterator", data := .fields #[.ref l, .int 0 0] }).objs.size < s.heap.objs.size := lb
    rw [this] at lb'
    exact absurd lb' (Nat.not_lt.mpr (Nat.le_succ _))
end
/-- max(xs, default=d): the greatest, or d -/
def rMaxD (K : PySem.W.Frag) : List V → List V → Hp → VK → Prop := fun vs zs H Q => ∃ (a : Addr) (ns : List Int) (d : V), vs = [V.ref a] ∧ zs = [d] ∧ SqL K H a (ns.map V.int) ∧ (ns = [] → Q d H) ∧ ∀ m ∈ ns, (∀ k ∈ ns, k ≤ m) → Q (.int m) H
theorem cr_maxD {X : Cx} (hc : X.calm = true) : CallRK X (.builtin "max") ["default"] (rMaxD X.K) := by
  intro pins s σ H vs zs us ws Q I r rz h
  obtain ⟨p, ns, d, rfl, rfl, hs, q0, q1⟩ := h
  obtain ⟨its, rv, hl, _⟩ := I.list hs
  rw [Vals.ref1 r]
  cases rz with
  | @cons _ dv _ _ rd rn =>
    cases rn
    have hi := rv.ints
    obtain ⟨xs, e⟩ := hi.allInts.items
    have hn : numsOf (intItems xs).toList = ns := by rw [← e]; exact hi.numsOf
    rw [nums_intItems] at hn
    subst hn
    have hl2 := hl.isList
    rw [e] at hl2
    show wpAny _ _ (call (.builtin "max") [.ref p] [("default", dv)]) _ _ _
    refine max_dflt (I.ok.hd hc) hl2 fun v h2 tk v0 v1 kp => ?_
    by_cases z : xs.size = 0
    · rw [v0 z]
      have z2 : xs.toList = [] := List.length_eq_zero_iff.mp (by rw [Array.length_toList]; exact z)
      exact ⟨d, H, I.kept kp, rd, q0 (by rw [z2]; rfl)⟩
    · obtain ⟨t, rfl⟩ := intItems_at (v1 (by omega))
      obtain ⟨_, b2⟩ := argBest_gt (numAt xs) (xs.size - 1)
      refine ⟨.int _, H, I.kept kp, ⟨_, rfl⟩, q1 _ ?_ fun k hk => ?_⟩
      · rw [numAt_eq]; exact PySem.getD_mem (by rw [List.length_map, Array.length_toList]; omega)
      · obtain ⟨j, hj, rfl⟩ := mem_getD hk
        rw [List.length_map, Array.length_toList] at hj
        rw [← numAt_eq]; exact b2 j (by omega)
end MxD

namespace NlC
open PySem PySem.Spec PyProof.Rows L2
/-! a list of anything beside the empty list -/
section
variable {X : Cx}
def rNeNil (K : PySem.W.Frag) : R2 := fun x y H Q => ∃ (a b : Addr) (xs : List V), x = .ref a ∧ y = .ref b ∧ SqL K H a xs ∧ SqL K H b [] ∧ Q (.bl (!xs.isEmpty)) H
theorem op_neNil (hu : X.A.units < cLine) : OpR X (compareOp .NotEq) (rNeNil X.K) := by
  intro pins s σ H x y v u Q I rx ry h
  obtain ⟨a, b, xs, rfl, rfl, ha, hb, q⟩ := h
  cases rx
  cases ry
  obtain ⟨its, rv, l1, _⟩ := I.list ha
  obtain ⟨its2, rv2, l2, _⟩ := I.list hb
  have l1' : s.heap.IsList a its.toArray := by obtain ⟨o, n, ho, hc, _, hd⟩ := l1; exact ⟨o, ho, hc, n, hd⟩
  have l2' : s.heap.IsList b its2.toArray := by obtain ⟨o, n, ho, hc, _, hd⟩ := l2; exact ⟨o, ho, hc, n, hd⟩
  clear l1 l2
  have e2 : its2 = [] := rv2.zero
  subst e2
  cases xs with
  | nil =>
    have e1 : its = [] := rv.zero
    subst e1
    exact SeqAt.RcNeAt.lists l1' l2' rfl hu (e := fun _ => true) (fun j h => absurd h (Nat.not_lt_zero _)) X.prog X.w _ _ ⟨.bl _, H, I, rfl, q⟩
  | cons z zs =>
    cases rv with
    | cons r1 r2 =>
      exact SeqAt.RcNeAt.lists_lengths l1' l2' (by simp) hu X.prog X.w _ _ ⟨.bl _, H, I, rfl, q⟩
end
end NlC

/-! own: zip of a tuple and a list -/
namespace ZpM
open PySem PySem.Spec PyProof.Rows L2
def Izm (K : PySem.W.Frag) (a b : Addr) : It :=
  ⟨fun i H => ∃ (xs ys : List V) (x y : V), SqT K H a xs ∧ SqL K H b ys ∧ xs[i]? = some x ∧ ys[i]? = some y, fun i H v H' => ∃ pr x y, v = .ref pr ∧ H pr = none ∧ H' = upd H pr (.tup [x, y]) ∧ (∀ xs, SqT K H a xs → xs[i]? = some x) ∧ ∀ ys, SqL K H b ys → ys[i]? = some y, fun i H => ∃ xs ys : List V, SqT K H a xs ∧ SqL K H b ys ∧ i ≤ xs.length ∧ i ≤ ys.length ∧ (i = xs.length ∨ i = ys.length)⟩
/-- what a zip of the two keeps -/
def Tn (z TI TO i1 i2 a b : Addr) (i : Nat) (h : Heap) : Prop := IsZip h z TI TO .none ∧ IsTupOf2 h TI (.ref i1) (.ref i2) ∧ (∃ x y, IsTupOf2 h TO x y) ∧ h.IsTupleIter i1 a i ∧ h.IsListIter i2 b i
theorem mem5 {c z TI TO i1 i2 : Addr} (h : c ∈ [z, TI, TO, i1, i2]) : c = z ∨ c = TI ∨ c = TO ∨ c = i1 ∨ c = i2 := by simpa using h
theorem turn_zm {P : Program} {w : World} {K : PySem.W.Frag} {elts : List Expr} {kk : Nat} {tpos : Pos} {a b z TI TO i1 i2 : Addr} (S : ZipSep2 z TI TO i1 i2 [i1, a] [i2, b]) :
    Turn P w K (.Tuple elts kk tpos) (Izm K a b) [z, TI, TO, i1, i2] z (Tn z TI TO i1 i2 a b) where
  mem := List.mem_cons_self
  obj := fun i h tn c hc => by
    obtain ⟨tz, tI, ⟨x, y, tO⟩, ⟨o1, e1, _, d1⟩, ⟨o2, e2, _, d2⟩⟩ := tn
    rcases mem5 hc with q | q | q | q | q <;> rw [q]
    · exact ⟨_, tz, fun v y => nomatch y⟩
    · exact ⟨_, tI, fun v y => nomatch y⟩
    · exact ⟨_, tO, fun v y => nomatch y⟩
    · exact ⟨o1, e1, fun v y => by rw [d1] at y; cases y⟩
    · exact ⟨o2, e2, fun v y => by rw [d2] at y; cases y⟩
  keep := fun i h h' tn kp => by
    obtain ⟨tz, tI, ⟨x, y, tO⟩, t1, t2⟩ := tn
    exact ⟨kp z (by simp) _ tz, kp TI (by simp) _ tI, ⟨x, y, kp TO (by simp) _ tO⟩, t1.at fun o e => kp i1 (by simp) o e, t2.at fun o e => kp i2 (by simp) o e⟩
  item := by
    intro X hP hw hK hc i pins s σ H E I hf tn hg
    subst hP hw hK
    obtain ⟨tz, tI, ⟨x0, y0, tO⟩, t1, t2⟩ := tn
    obtain ⟨xs, ys, x, y, qx, qy, hx, hy⟩ := hg
    obtain ⟨its, rv, p1, _⟩ := I.tuple qx
    obtain ⟨jts, rw2, p2, _⟩ := I.list qy
    obtain ⟨u, hu, ru⟩ := rv.get hx
    obtain ⟨v, hv, rv2⟩ := rw2.get hy
    have l1 : s.heap.IsTuple a its.toArray := p1
    have l2 : s.heap.IsList b jts.toArray := p2.isList
    have na : a ≠ i1 := fun e => by
      obtain ⟨_, g1, c1, _⟩ := l1
      obtain ⟨_, g2, c2, _⟩ := t1
      rw [e, g2] at g1
      cases g1
      rw [c1] at c2
      exact absurd (Value.type.inj c2) (by decide)
    have nb : b ≠ i2 := fun e => by
      obtain ⟨_, _, g1, c1, _⟩ := p2
      obtain ⟨_, g2, c2, _⟩ := t2
      rw [e, g2] at g1
      cases g1
      rw [c1] at c2
      exact absurd (Value.type.inj c2) (by decide)
    have hh : X.A.in1.handled = none := I.ok.hd hc
    have zl : z < s.heap.objs.size := Heap.lt_size tz
    refine wpAny_pyNext_zipD2_item S (Draws.tuple hh i1 a na its.toArray) (Draws.list hh i2 b nb jts.toArray) tz tI tO ⟨t1, l1⟩ ⟨t2, l2⟩ ?_ ?_ fun u' v' h2 tk hu' hv' z2 O2 s1 s2 hT hs kp => ?_
    · have := (List.getElem?_eq_some_iff.mp hu).1
      simpa using this
    · have := (List.getElem?_eq_some_iff.mp hv).1
      simpa using this
    have eu : u' = u := by
      have h : its.toArray[i]? = some u' := hu'
      rw [List.getElem?_toArray, hu] at h
      exact (Option.some.inj h).symm
    have ev : v' = v := by
      have h : jts.toArray[i]? = some v' := hv'
      rw [List.getElem?_toArray, hv] at h
      exact (Option.some.inj h).symm
    subst eu ev
    refine ⟨_, rfl, wpAny_letOwnedTupleGo_zip (s := { s with heap := h2, toks := tk }) z2 fun h3 z3 sb => ?_⟩
    have T3 : h3.get? s.heap.objs.size = some { cls := .type "tuple", data := .seq #[u', v'] } := (sb.2 _ (Nat.ne_of_gt zl)).trans hT
    have made : ObjOk X.prog X.w (upd H s.heap.objs.size (.tup [x, y])) h3 s.heap.objs.size (.tup [x, y]) := ⟨by show 2 ≤ sizeLine; decide, [u', v'], .cons ru (.cons rv2 .nil), ⟨_, T3, rfl, _, rfl⟩⟩
    have I3 : Inv X pins σ (upd H s.heap.objs.size (.tup [x, y])) { s with heap := h3, toks := tk } :=
      I.turnedNew (ch := [z, TI, TO, i1, i2]) (fun c o nc e => (sb.2 c (fun y => nc (by simp [y]))).trans (kp c o (fun y => nc (by simp [y])) (fun y => nc (by simp [y])) (fun y => nc (by simp [y])) (fun y => nc (by simp [y])) e)) hf (Nat.le_refl _) made
    refine ⟨.ref s.heap.objs.size, _, I3, rfl, ⟨_, x, y, rfl, I.hok.fresh (Nat.le_refl _), rfl, fun l hl => by rw [I.tuple_inj hl qx]; exact hx, fun l hl => by rw [I.list_inj hl qy]; exact hy⟩, ⟨z3, ?_, ⟨_, _, (sb.2 _ S.TOz).trans O2⟩, s1.1.at fun o e => (sb.2 _ S.zi1.symm).trans e, s2.1.at fun o e => (sb.2 _ S.zi2.symm).trans e⟩, fun c hc => ?_⟩
    · exact (sb.2 _ S.TIz).trans (kp _ _ S.TIz S.TITO S.TIi1 S.TIi2 tI)
    · have lc : c < s.heap.objs.size := by
        rcases mem5 hc with q | q | q | q | q <;> rw [q]
        · exact zl
        · exact Heap.lt_size tI
        · exact Heap.lt_size tO
        · obtain ⟨_, e1, _⟩ := t1; exact Heap.lt_size e1
        · obtain ⟨_, e2, _⟩ := t2; exact Heap.lt_size e2
      rw [upd_ne (Nat.ne_of_lt lc)]
      exact (hf c hc).1
  done := by
    intro X hP hw hK hc i pins s σ H E I hf tn hg
    subst hP hw hK
    obtain ⟨tz, tI, ⟨x0, y0, tO⟩, t1, t2⟩ := tn
    obtain ⟨xs, ys, qx, qy, le1, le2, hend⟩ := hg
    obtain ⟨its, rv, p1, _⟩ := I.tuple qx
    obtain ⟨jts, rw2, p2, _⟩ := I.list qy
    have l1 : s.heap.IsTuple a its.toArray := p1
    have l2 : s.heap.IsList b jts.toArray := p2.isList
    have na : a ≠ i1 := fun e => by
      obtain ⟨_, g1, c1, _⟩ := l1
      obtain ⟨_, g2, c2, _⟩ := t1
      rw [e, g2] at g1
      cases g1
      rw [c1] at c2
      exact absurd (Value.type.inj c2) (by decide)
    have nb : b ≠ i2 := fun e => by
      obtain ⟨_, _, g1, c1, _⟩ := p2
      obtain ⟨_, g2, c2, _⟩ := t2
      rw [e, g2] at g1
      cases g1
      rw [c1] at c2
      exact absurd (Value.type.inj c2) (by decide)
    have hh : X.A.in1.handled = none := I.ok.hd hc
    have n1 : its.toArray.size = xs.length := by have := rv.length; simp; omega
    have n2 : jts.toArray.size = ys.length := by have := rw2.length; simp; omega
    exact wpAny_pyNext_zipD2_end S (Draws.tuple hh i1 a na its.toArray) (Draws.list hh i2 b nb jts.toArray) tz tI tO ⟨t1, l1⟩ ⟨t2, l2⟩ (by omega) (by omega) (by omega) fun h2 tk kp => ⟨rfl, I.turnedL (ch := [z, TI, TO, i1, i2]) (fun c o nc e =>
      kp c o (fun y => nc (by simp [y])) (fun y => nc (by simp [y])) (fun y => nc (by simp [y])) (fun y => nc (by simp [y])) e) hf⟩
  self := fun A i s Q E tn q => wpAny_pyIter_zip tn.1 q
def iZm (K : PySem.W.Frag) (ta : TA) : TI := fun σ H R => ta σ H fun vs H1 => ∃ a b xs ys, vs = [.ref a, .ref b] ∧ SqT K H1 a xs ∧ SqL K H1 b ys ∧ R (Izm K a b) H1
theorem pi_zm {X : Cx} {e e2 : Expr} {ta : TA} {p pos tpos : Pos} {elts : List Expr} {kk : Nat} (hg : Gl X "zip") (hm : X.mg "zip" = none) (ha : PA X [e, e2] ta)
    (hs : starEach [e, e2] X.env = (false, eval e X.env) :: starEach [e2] X.env := by rfl) (hpl : (backTo pos (starEach [e2] X.env)).any (·.1) = false := by rfl) : PI X (.Tuple elts kk tpos) (.Call (.Name "zip" p) [e, e2] [] pos) (iZm X.K ta) := by
  constructor
  intro pins s σ H R I h
  refine Call_ (ld_blt I hg hm PyProof.Rows.boot_zip (PyProof.Rows.callWith_type1 (thn (ha.run pos pins s σ H _ I h) fun us s1 ⟨vs, H1, I1, r1, q1⟩ => ?_) hs hpl))
  obtain ⟨a, b, xs, ys, ev, qx, qy, fin⟩ := q1
  subst ev
  cases r1 with
  | cons ra rr =>
    cases rr with
    | cons rb rr =>
      cases rr
      cases ra
      cases rb
      obtain ⟨its, rv, p1, _⟩ := I1.tuple qx
      obtain ⟨jts, rw2, p2, _⟩ := I1.list qy
      have l1 : s1.heap.IsTuple a its.toArray := p1
      have l2 : s1.heap.IsList b jts.toArray := p2.isList
      have la : a < s1.heap.objs.size := by obtain ⟨_, e1, _⟩ := id l1; exact Heap.lt_size e1
      have lb : b < s1.heap.objs.size := p2.lt
      refine zip_begins2 (begins_tuple a its.toArray) (begins_list b jts.toArray) l1 l2 fun h2 z2 T2 O2 g1 g2 sz2 kp => wpAny_pyIter_zip z2 ?_
      refine ⟨s1.heap.objs.size + 4, [s1.heap.objs.size + 4, s1.heap.objs.size + 2, s1.heap.objs.size + 3, s1.heap.objs.size, s1.heap.objs.size + 1], Tn (s1.heap.objs.size + 4) (s1.heap.objs.size + 2) (s1.heap.objs.size + 3) s1.heap.objs.size (s1.heap.objs.size + 1) a b, _, H1, rfl, I1.kept (t' := s1.toks) kp, turn_zm ?_, ⟨z2, T2, ⟨_, _, O2⟩, ⟨_, g1, rfl, rfl⟩, ⟨_, g2, rfl, rfl⟩⟩, fun c hc => ?_, fin⟩
      · generalize s1.heap.objs.size = n at *
        constructor
        all_goals first
          | exact List.mem_cons_self
          | (intro q; rcases List.mem_cons.mp q with q | q <;> (try rw [List.mem_singleton] at q) <;> (have la' : (a : Nat) < n := la; have lb' : (b : Nat) < n := lb; unfold Addr at *; omega))
          | (intro q; unfold Addr at *; omega)
      · have lc : s1.heap.objs.size ≤ c := by
          rcases mem5 hc with q | q | q | q | q <;> rw [q]
          · exact Nat.le_add_right _ _
          · exact Nat.le_add_right _ _
          · exact Nat.le_add_right _ _
          · exact Nat.le_refl _
          · exact Nat.le_add_right _ _
        exact I1.fpOk lc (I1.hok.fresh lc)
end ZpM

set_option Elab.async false
set_option linter.all false
set_option maxRecDepth 100000
set_option maxHeartbeats 4000000
namespace Gait
open PySem PySem.Spec PyProof.Rows L2
section
variable {X : Cx}
/-- // by any divisor but 0 -/
def CDivA (_ j : Int) : Prop := j ≠ 0 ∧ j.natAbs.log2 < 9000
theorem op_fdivA : OpR X (binaryOp .FloorDiv) (rI CDivA fun i j => .int (i.fdiv j)) := opI fun _ _ _ _ _ _ _ hc w => floordiv_int hc.1 w (.inl (PyProof.noPylong_of_log2 hc.2))
end
/-- what stood stands, but for what stands at r -/
def Kp (r : Addr) (H H' : Hp) : Prop := (∀ b o, b ≠ r → H b = some o → H' b = some o) ∧ ∀ c l, H r = some (.lst (.ref c :: l)) → ∃ l', H' r = some (.lst (.ref c :: l'))
theorem Kp.refl {r : Addr} {H : Hp} : Kp r H H := ⟨fun _ _ _ h => h, fun _ l h => ⟨l, h⟩⟩
theorem Kp.trans {r : Addr} {H H1 H2 : Hp} (a : Kp r H H1) (b : Kp r H1 H2) : Kp r H H2 := ⟨fun c o n h => b.1 c o n (a.1 c o n h), fun c l h => by
  obtain ⟨l1, h1⟩ := a.2 c l h
  exact b.2 c l1 h1⟩
theorem Kp.of {r : Addr} {H H' : Hp} (s : Same H H') : Kp r H H' := ⟨fun b o _ h => s b o h, fun _ l h => ⟨l, s _ _ h⟩⟩
theorem Kp.at {r c : Addr} {H : Hp} {l l' : List V} (e : H r = some (.lst (.ref c :: l))) : Kp r H (upd H r (.lst (.ref c :: l'))) := ⟨fun b u n h => by rw [upd_ne n]; exact h, fun d m h => by
  rw [e] at h
  cases h
  exact ⟨l', upd_same⟩⟩
theorem Kp.rd {r x : Addr} {H H' : Hp} {u : HO} (k : Kp r H H') (n : x ≠ r) (h : Rd H x u) : Rd H' x u := by
  rcases h with h | ⟨o, h⟩
  · exact .inl (k.1 _ _ n h)
  · exact .inr ⟨o, k.1 _ _ n h⟩
theorem Kp.L {K : PySem.W.Frag} {r x : Addr} {H H' : Hp} {xs : List V} (k : Kp r H H') (n : x ≠ r) (h : SqL K H x xs) : SqL K H' x xs := by
  rcases h with h | h
  · exact .inl (k.rd n h)
  · exact .inr h
theorem Kp.T {K : PySem.W.Frag} {r x : Addr} {H H' : Hp} {xs : List V} (k : Kp r H H') (n : x ≠ r) (h : SqT K H x xs) : SqT K H' x xs := by
  rcases h with h | h
  · exact .inl (k.rd n h)
  · exact .inr h
theorem Same.T {K : PySem.W.Frag} {x : Addr} {H H' : Hp} {xs : List V} (k : Same H H') (h : SqT K H x xs) : SqT K H' x xs := by
  rcases h with (h | ⟨o, h⟩) | h
  · exact .inl (.inl (k _ _ h))
  · exact .inl (.inr ⟨o, k _ _ h⟩)
  · exact .inr h
theorem Same.new {H : Hp} {p : Addr} {o : HO} (h : H p = none) : Same H (upd H p o) := fun b x e => by
  rw [upd_ne (ne_of_none e h)]
  exact e
theorem some_ne_none {H : Hp} {p q : Addr} {o : HO} (h : H p = some o) (n : H q = none) : p ≠ q := ne_of_none h n
/-- the law's source of numbers at r -/
structure RgS (H : Hp) (r c : Addr) (ns : List Int) (i x k : Int) : Prop where
  hr : H r = some (.lst [.ref c, .int i, .int x, .int k])
  hc : H c = some (.lst (ns.map V.int))
  i0 : 0 ≤ i
  i1 : i ≤ (ns.length : Int)
  x0 : 0 ≤ x
  k0 : 0 ≤ k
  k1 : k < 2147483563
theorem RgS.ne {H : Hp} {r c : Addr} {ns : List Int} {i x k : Int} (R : RgS H r c ns i x k) : c ≠ r := by
  refine ne_of R.hc R.hr fun z => ?_
  cases ns with
  | nil => cases z
  | cons m l => cases z
theorem RgS.set {H : Hp} {r c : Addr} {ns : List Int} {i x k i' x' k' : Int} (R : RgS H r c ns i x k) (i0 : 0 ≤ i') (i1 : i' ≤ (ns.length : Int)) (x0 : 0 ≤ x') (k0 : 0 ≤ k') (k1 : k' < 2147483563) : RgS (upd H r (.lst [.ref c, .int i', .int x', .int k'])) r c ns i' x' k' :=
  ⟨upd_same, by rw [upd_ne R.ne]; exact R.hc, i0, i1, x0, k0, k1⟩
def Rg (H : Hp) (r : Addr) : Prop := ∃ c ns i x k, RgS H r c ns i x k
theorem Rg.same {H H' : Hp} {r : Addr} (R : Rg H r) (s : Same H H') : Rg H' r := by
  obtain ⟨c, ns, i, x, k, R⟩ := R
  exact ⟨c, ns, i, x, k, s _ _ R.hr, s _ _ R.hc, R.i0, R.i1, R.x0, R.k0, R.k1⟩
theorem Rg.some {H : Hp} {r : Addr} (R : Rg H r) : ∃ o, H r = some o := by
  obtain ⟨c, ns, i, x, k, R⟩ := R
  exact ⟨_, R.hr⟩
theorem Rg.ne {H : Hp} {r p : Addr} (R : Rg H r) (h : H p = none) : p ≠ r := by
  obtain ⟨o, e⟩ := R.some
  exact (ne_of_none e h).symm
/-- what is new at H2 may be written later -/
theorem Rg.put {H2 H5 : Hp} {r D : Addr} {o : HO} (R2 : Rg H2 r) (nD : H2 D = none) (k : Kp r H2 H5) (R5 : Rg H5 r) : Rg (upd H5 D o) r := by
  have Dr : D ≠ r := R2.ne nD
  obtain ⟨c2, n2, i2, x2, k2, R2⟩ := R2
  obtain ⟨c, ns, i, x, kk, R⟩ := R5
  obtain ⟨l', e⟩ := k.2 _ _ R2.hr
  rw [R.hr] at e
  cases e
  exact ⟨c2, ns, i, x, kk, by rw [upd_ne Dr.symm]; exact R.hr, by rw [upd_ne (ne_of_none R2.hc nD)]; exact R.hc, R.i0, R.i1, R.x0, R.k0, R.k1⟩
theorem Kp.put {H H2 H5 : Hp} {r D : Addr} {o : HO} (nD : H2 D = none) (Dr : D ≠ r) (k : Kp r H2 H5) : Kp r H2 (upd H5 D o) := ⟨fun b u nb e => by
  rw [upd_ne (ne_of_none e nD)]
  exact k.1 _ _ nb e, fun c l e => by
  obtain ⟨l', e'⟩ := k.2 c l e
  exact ⟨l', by rw [upd_ne Dr.symm]; exact e'⟩⟩
theorem sz {n : Nat} (h : n ≤ 100000) : n ≤ sizeLine := Nat.le_trans h (by decide)
theorem szl {n : Nat} (h : n < 100000) : n < sizeLine := Nat.lt_of_lt_of_le h (by decide)
theorem gcd_step {a b : Int} (h0 : 0 ≤ a) (hb : 0 ≤ b) : Int.gcd b (a % b) = Int.gcd a b := by
  rw [Int.gcd_eq_natAbs_gcd_natAbs, Int.gcd_eq_natAbs_gcd_natAbs, Int.natAbs_emod_of_nonneg h0, Nat.gcd_comm a.natAbs b.natAbs, Nat.gcd_rec b.natAbs a.natAbs, Nat.gcd_comm]
/-- a fraction in lowest terms -/
def red (n d : Int) : Int × Int := ((if d > 0 then 1 else -1) * n / (Int.gcd n d : Int), (if d > 0 then 1 else -1) * d / (Int.gcd n d : Int))
theorem gcd_posI {n d : Int} (hd : d ≠ 0) : (0 : Int) < (Int.gcd n d : Int) := by
  have : 0 < Int.gcd n d := Int.gcd_pos_of_ne_zero_right n hd
  omega
theorem sgn_cases (d : Int) : ((if d > 0 then (1 : Int) else -1) = 1 ∧ d > 0) ∨ ((if d > 0 then (1 : Int) else -1) = -1 ∧ ¬ d > 0) := by
  by_cases h : d > 0
  · exact .inl ⟨if_pos h, h⟩
  · exact .inr ⟨if_neg h, h⟩
theorem red_parts {n d : Int} (hd : d ≠ 0) : ∃ s g a b : Int, (s = 1 ∨ s = -1) ∧ 0 < g ∧ g = (Int.gcd n d : Int) ∧ s * n = g * a ∧ s * d = g * b ∧ 0 < b ∧ red n d = (a, b) ∧ Int.gcd a b = 1 := by
  have g0 := gcd_posI (n := n) hd
  obtain ⟨u, hu⟩ := Int.gcd_dvd_left n d
  obtain ⟨v, hv⟩ := Int.gcd_dvd_right n d
  have hg : Int.gcd u v = 1 := by
    have h1 : Int.gcd n d = (Int.gcd n d) * Int.gcd u v := by
      have e := Int.gcd_mul_left (Int.gcd n d : Int) u v
      rw [← hu, ← hv] at e
      simpa using e
    have h2 : 0 < Int.gcd n d := by omega
    have h3 : Int.gcd n d * 1 = Int.gcd n d * Int.gcd u v := by omega
    exact (Nat.eq_of_mul_eq_mul_left h2 h3).symm
  generalize hG : (Int.gcd n d : Int) = g at *
  have key : ∀ s : Int, (s = 1 ∨ s = -1) → Int.gcd (s * u) (s * v) = 1 := by
    intro s hs
    rcases hs with rfl | rfl
    · simpa using hg
    · simpa using hg
  have div : ∀ s w x : Int, x = g * w → s * x / g = s * w := by
    intro s w x e
    rw [e, show s * (g * w) = g * (s * w) by rw [← Int.mul_assoc, Int.mul_comm s g, Int.mul_assoc]]
    exact Int.mul_ediv_cancel_left _ (by omega)
  rcases sgn_cases d with ⟨e, h⟩ | ⟨e, h⟩
  · refine ⟨1, g, 1 * u, 1 * v, .inl rfl, g0, rfl, ?_, ?_, ?_, ?_, key 1 (.inl rfl)⟩
    · rw [hu]; simp
    · rw [hv]; simp
    · have : 0 < g * v := by omega
      have := Int.pos_of_mul_pos_right this (by omega)
      omega
    · unfold red
      rw [e, hG, div 1 u n hu, div 1 v d hv]
  · refine ⟨-1, g, -1 * u, -1 * v, .inr rfl, g0, rfl, ?_, ?_, ?_, ?_, key (-1) (.inr rfl)⟩
    · rw [hu]; simp [Int.mul_neg]
    · rw [hv]; simp [Int.mul_neg]
    · have h4 : 0 < g * (-v) := by
        rw [Int.mul_neg]
        omega
      have := Int.pos_of_mul_pos_right h4 (by omega)
      omega
    · unfold red
      rw [e, hG, div (-1) u n hu, div (-1) v d hv]
theorem red_pos {n d : Int} (hd : d ≠ 0) : 0 < (red n d).2 := by
  obtain ⟨s, g, a, b, _, _, _, _, _, hb, e, _⟩ := red_parts (n := n) hd
  rw [e]; exact hb
theorem red_gcd {n d : Int} (hd : d ≠ 0) : Int.gcd (red n d).1 (red n d).2 = 1 := by
  obtain ⟨s, g, a, b, _, _, _, _, _, hb, e, hg⟩ := red_parts (n := n) hd
  rw [e]; exact hg
theorem red_eq {n d : Int} (hd : d ≠ 0) : (red n d).1 * d = n * (red n d).2 := by
  obtain ⟨s, g, a, b, hs, g0, _, h1, h2, hb, e, hg⟩ := red_parts (n := n) hd
  rw [e]
  show a * d = n * b
  have hs2 : s ≠ 0 := by omega
  apply Int.eq_of_mul_eq_mul_left (a := s * g) (by
    intro z
    rcases Int.mul_eq_zero.mp z with z | z <;> omega)
  calc s * g * (a * d) = (g * a) * (s * d) := by simp only [Int.mul_assoc, Int.mul_comm, Int.mul_left_comm]
    _ = (s * n) * (g * b) := by rw [h1, h2]
    _ = s * g * (n * b) := by simp only [Int.mul_assoc, Int.mul_comm, Int.mul_left_comm]
theorem natAbs_sgn {s n : Int} (hs : s = 1 ∨ s = -1) : (s * n).natAbs = n.natAbs := by
  rcases hs with rfl | rfl
  · simp
  · simp
theorem red_le1 {n d : Int} (hd : d ≠ 0) : (red n d).1.natAbs ≤ n.natAbs := by
  obtain ⟨s, g, a, b, hs, g0, _, h1, h2, hb, e, hg⟩ := red_parts (n := n) hd
  rw [e, ← natAbs_sgn (n := n) hs, h1, Int.natAbs_mul]
  exact Nat.le_mul_of_pos_left _ (by omega)
theorem red_le2 {n d : Int} (hd : d ≠ 0) : (red n d).2.natAbs ≤ d.natAbs := by
  obtain ⟨s, g, a, b, hs, g0, _, h1, h2, hb, e, hg⟩ := red_parts (n := n) hd
  rw [e, ← natAbs_sgn (n := d) hs, h2, Int.natAbs_mul]
  exact Nat.le_mul_of_pos_left _ (by omega)
theorem dvd_cop {x y z : Int} (h : x ∣ y * z) (g : Int.gcd x z = 1) : x ∣ y := by
  rw [← Int.natAbs_dvd_natAbs, Int.natAbs_mul] at h
  rw [← Int.natAbs_dvd_natAbs]
  exact Nat.Coprime.dvd_of_dvd_mul_right g h
theorem low_unique {a b c e : Int} (hb : 0 < b) (he : 0 < e) (g1 : Int.gcd a b = 1) (g2 : Int.gcd c e = 1) (h : a * e = c * b) : a = c ∧ b = e := by
  have d1 : b ∣ e := by
    have : b ∣ e * a := ⟨c, by rw [Int.mul_comm e a, h, Int.mul_comm]⟩
    exact dvd_cop this (by rw [Int.gcd_comm]; exact g1)
  have d2 : e ∣ b := by
    have : e ∣ b * c := ⟨a, by rw [Int.mul_comm b c, ← h, Int.mul_comm]⟩
    exact dvd_cop this (by rw [Int.gcd_comm]; exact g2)
  have hbe : b = e := Int.dvd_antisymm (by omega) (by omega) d1 d2
  subst hbe
  exact ⟨Int.eq_of_mul_eq_mul_right (by omega) h, rfl⟩
theorem red_unique {n d a b : Int} (hd : d ≠ 0) (hb : 0 < b) (g : Int.gcd a b = 1) (h : a * d = n * b) : red n d = (a, b) := by
  have h1 := red_eq (n := n) hd
  have h2 : (red n d).1 * b = a * (red n d).2 := by
    apply Int.eq_of_mul_eq_mul_right hd
    calc (red n d).1 * b * d = ((red n d).1 * d) * b := by simp only [Int.mul_assoc, Int.mul_comm, Int.mul_left_comm]
      _ = (n * b) * (red n d).2 := by rw [h1]; simp only [Int.mul_assoc, Int.mul_comm, Int.mul_left_comm]
      _ = a * (red n d).2 * d := by rw [← h]; simp only [Int.mul_assoc, Int.mul_comm, Int.mul_left_comm]
  obtain ⟨e1, e2⟩ := low_unique (red_pos (n := n) hd) hb (red_gcd hd) g h2
  exact Prod.ext e1 e2
theorem red_self {n d : Int} (hd : 0 < d) (g : Int.gcd n d = 1) : red n d = (n, d) := red_unique (by omega) hd g rfl

/-- the fraction n / d, as a tuple -/
def Fr (K : PySem.W.Frag) (H : Hp) (v : V) (n d : Int) : Prop := ∃ p, v = .ref p ∧ SqT K H p [.int n, .int d]
theorem RgT {K : PySem.W.Frag} {H H' : Hp} {r p : Addr} {xs : List V} (R : Rg H r) (k : Kp r H H') (h : SqT K H p xs) : SqT K H' p xs := by
  obtain ⟨c, ns, i, x, kk, R⟩ := R
  rcases h with (h | ⟨o, h⟩) | h
  · exact .inl (.inl (k.1 _ _ (ne_of h R.hr (fun z => by cases z)) h))
  · exact .inl (.inr ⟨o, k.1 _ _ (ne_of h R.hr (fun z => by cases z)) h⟩)
  · exact .inr h
theorem Fr.kp {K : PySem.W.Frag} {H H' : Hp} {r : Addr} {v : V} {n d : Int} (f : Fr K H v n d) (R : Rg H r) (k : Kp r H H') : Fr K H' v n d := by
  obtain ⟨p, e, h⟩ := f
  exact ⟨p, e, RgT R k h⟩
theorem Fr.same {K : PySem.W.Frag} {H H' : Hp} {v : V} {n d : Int} (f : Fr K H v n d) (k : Same H H') : Fr K H' v n d := by
  obtain ⟨p, e, h⟩ := f
  exact ⟨p, e, Same.T k h⟩
theorem Fr.new {K : PySem.W.Frag} {H : Hp} {p : Addr} {n d : Int} : Fr K (upd H p (.tup [.int n, .int d])) (.ref p) n d := ⟨p, rfl, SqT.of upd_same⟩
/-- a fraction of the law's own: lowest terms, its size -/
structure FrB (K : PySem.W.Frag) (H : Hp) (v : V) (n d : Int) (B : Nat) : Prop where
  fr : Fr K H v n d
  d0 : 0 < d
  g : Int.gcd n d = 1
  nB : n.natAbs < 2 ^ B
  dB : d.natAbs < 2 ^ B
theorem FrB.kp {K : PySem.W.Frag} {H H' : Hp} {r : Addr} {v : V} {n d : Int} {B : Nat} (f : FrB K H v n d B) (R : Rg H r) (k : Kp r H H') : FrB K H' v n d B := ⟨f.fr.kp R k, f.d0, f.g, f.nB, f.dB⟩
theorem FrB.same {K : PySem.W.Frag} {H H' : Hp} {v : V} {n d : Int} {B : Nat} (f : FrB K H v n d B) (k : Same H H') : FrB K H' v n d B := ⟨f.fr.same k, f.d0, f.g, f.nB, f.dB⟩
theorem red_B {K : PySem.W.Frag} {H : Hp} {p : Addr} {n d : Int} {B : Nat} (hd : d ≠ 0) (h1 : n.natAbs < 2 ^ B) (h2 : d.natAbs < 2 ^ B) : FrB K (upd H p (.tup [.int (red n d).1, .int (red n d).2])) (.ref p) (red n d).1 (red n d).2 B :=
  ⟨Fr.new, red_pos hd, red_gcd hd, Nat.lt_of_le_of_lt (red_le1 hd) h1, Nat.lt_of_le_of_lt (red_le2 hd) h2⟩
theorem log2_lt {j : Int} {b : Nat} (hb : j.natAbs < 2 ^ b) (h0 : 0 < b) (h9 : b ≤ 9000) : j.natAbs.log2 < 9000 := Nat.lt_of_lt_of_le (PySem.Flt.log2_lt_of h0 hb) h9
/-! ### equal data -/
def atom : V → Bool
  | .non => true | .bl _ => true | .int _ => true | .str _ => true | _ => false
def Eqd (K : PySem.W.Frag) (H : Hp) : Nat → V → V → Prop
  | 0, x, y => x = y ∧ atom x = true
  | n + 1, x, y => (x = y ∧ atom x = true) ∨ ∃ a b xs ys, x = .ref a ∧ y = .ref b ∧ ((SqL K H a xs ∧ SqL K H b ys) ∨ (SqT K H a xs ∧ SqT K H b ys)) ∧ xs.length = ys.length ∧ xs.length ≤ 100000 ∧ ∀ (i : Nat) u v, xs[i]? = some u → ys[i]? = some v → Eqd K H n u v
theorem Eqd.same {K : PySem.W.Frag} {H H' : Hp} (s : Same H H') : ∀ {n : Nat} {x y : V}, Eqd K H n x y → Eqd K H' n x y
  | 0, _, _, h => h
  | n + 1, _, _, .inl h => .inl h
  | n + 1, _, _, .inr ⟨a, b, xs, ys, e1, e2, h, l, l2, k⟩ => .inr ⟨a, b, xs, ys, e1, e2, h.elim (fun z => .inl ⟨s.seq z.1, s.seq z.2⟩) (fun z => .inr ⟨Same.T s z.1, Same.T s z.2⟩), l, l2, fun i u v hu hv => Eqd.same s (k i u v hu hv)⟩
theorem Eqd.up {K : PySem.W.Frag} {H : Hp} : ∀ {n : Nat} {x y : V}, Eqd K H n x y → Eqd K H (n + 1) x y
  | 0, _, _, h => .inl h
  | n + 1, _, _, .inl h => .inl h
  | n + 1, _, _, .inr ⟨a, b, xs, ys, e1, e2, h, l, l2, k⟩ => .inr ⟨a, b, xs, ys, e1, e2, h, l, l2, fun i u v hu hv => Eqd.up (k i u v hu hv)⟩
theorem Eqd.mono {K : PySem.W.Frag} {H : Hp} {n m : Nat} {x y : V} (h : Eqd K H n x y) (l : n ≤ m) : Eqd K H m x y := by
  induction l with
  | refl => exact h
  | step _ ih => exact ih.up
theorem Eqd.atom {K : PySem.W.Frag} {H : Hp} {n : Nat} {x : V} (h : atom x = true) : Eqd K H n x x := by
  cases n with
  | zero => exact ⟨rfl, h⟩
  | succ n => exact .inl ⟨rfl, h⟩
theorem all2_nil {R : V → V → Prop} : ∀ (i : Nat) u v, ([] : List V)[i]? = some u → ([] : List V)[i]? = some v → R u v := fun i u v h => by cases h
theorem all2_cons {R : V → V → Prop} {x y : V} {xs ys : List V} (h : R x y) (k : ∀ (i : Nat) u v, xs[i]? = some u → ys[i]? = some v → R u v) : ∀ (i : Nat) u v, (x :: xs)[i]? = some u → (y :: ys)[i]? = some v → R u v
  | 0, u, v, h1, h2 => by cases h1; cases h2; exact h
  | i + 1, u, v, h1, h2 => k i u v h1 h2
theorem Eqd.lst {K : PySem.W.Frag} {H : Hp} {n : Nat} {a b : Addr} {xs ys : List V} (h1 : SqL K H a xs) (h2 : SqL K H b ys) (l : xs.length = ys.length) (l2 : xs.length ≤ 100000) (k : ∀ (i : Nat) u v, xs[i]? = some u → ys[i]? = some v → Eqd K H n u v) : Eqd K H (n + 1) (.ref a) (.ref b) :=
  .inr ⟨a, b, xs, ys, rfl, rfl, .inl ⟨h1, h2⟩, l, l2, k⟩
theorem Eqd.tup {K : PySem.W.Frag} {H : Hp} {n : Nat} {a b : Addr} {xs ys : List V} (h1 : SqT K H a xs) (h2 : SqT K H b ys) (l : xs.length = ys.length) (l2 : xs.length ≤ 100000) (k : ∀ (i : Nat) u v, xs[i]? = some u → ys[i]? = some v → Eqd K H n u v) : Eqd K H (n + 1) (.ref a) (.ref b) :=
  .inr ⟨a, b, xs, ys, rfl, rfl, .inr ⟨h1, h2⟩, l, l2, k⟩
theorem tyL {K : PySem.W.Frag} {H : Hp} {a : Addr} {xs : List V} (h : SqL K H a xs) : TyX K H (.ref a) (.type "list") := by
  rcases h with (h | ⟨o, h⟩) | ⟨o, its, n, h, c, _⟩
  · exact .base (.lst h)
  · exact .base (.frz h)
  · exact .kList h c
theorem tyT {K : PySem.W.Frag} {H : Hp} {a : Addr} {xs : List V} (h : SqT K H a xs) : TyX K H (.ref a) (.type "tuple") := by
  rcases h with (h | ⟨o, h⟩) | ⟨o, its, n, h, c, _⟩
  · exact .base (.tup h)
  · exact .fTuple h
  · exact .kTuple h c
theorem rd_isi {K : PySem.W.Frag} {H : Hp} {x : V} {t c : String} {b : Bool} {Q : VK} (ty : TyX K H x (.type t)) (h : kitB t c = some b) (w : Q (.bl b) H) : rIsi K [x, .ty c] H Q := ⟨x, .ty c, .type t, .type c, b, rfl, .ty c, ty, kit_ty h, w⟩
theorem ifF {c : Bool} {A B : Prop} (hc : c = false) (h : B) : if c = true then A else B := by rw [hc, if_neg Bool.false_ne_true]; exact h
theorem ifT {c : Bool} {A B : Prop} (hc : c = true) (h : A) : if c = true then A else B := by rw [if_pos hc]; exact h
theorem fn_false {P : Program} {w : World} {K : PySem.W.Frag} {mg : Str → Option Value} {base : Heap} {CX : CXT} {k : Nat} {f : Addr} {fd : FuncData} {ps : List Str} : FnOk P w K mg base CX k f fd ps (fun _ _ _ _ => False) :=
  ⟨fun _ _ _ _ h => h.elim, fun _ _ _ _ _ _ _ _ _ _ _ _ _ h => h.elim⟩
theorem tYes_if {σ : L2.St} {H : Hp} {A B : Hp → Prop} (h : A H) : tYes σ H fun b H3 => if b = true then A H3 else B H3 := by
  show (if true = true then A H else B H)
  rw [if_pos rfl]
  exact h
/-! ### f(k = v, ..), nothing by position -/
def tCallN0 (m : Nat) (sp : Sp) (gV : List V → List V → List V) (E : XK) (tk : TA) : TE := fun σ H Q => tk σ H fun zs H2 => zs.length = m ∧ sp (gV [] zs) H2 Q E
theorem pe_callN0 {X : Cx} {CX : CXT} {k : Nat} {f : Addr} {fd : FuncData} {ps ks : List Str} {sp : Sp} {E : XK} {x : Str} {p pos : Pos} {kws : List Keyword} {tk : TA} {g : List Value → List Value → List Value} {gV : List V → List V → List V}
    (F : FnOk X.prog X.w X.K X.mg X.base CX k f fd ps sp) (hr : Room k X.A) (hg : Gl X x) (hm : X.mg x = some (.ref f)) (hk : PySem.W.keepIn X.K (.ref f) = true) (hb : KBn X.K fd ps 0 ks g gV) (hx : Passes CX X E)
    (hkw : PK X kws tk) (hall : (backToKw pos (keywordEach kws X.env)).all (·.1.isSome) = true := by rfl) (hks : (backToKw pos (keywordEach kws X.env)).filterMap (·.1) = ks := by rfl)
    (hdb : (x == ("__debug__" : Str)) = false := by decide) (hpl : ((backTo pos (starEach [] X.env)).any (·.1) || (backToKw pos (keywordEach kws X.env)).any (·.1.isNone)) = false := by rfl) :
    PE X (.Call (.Name x p) [] kws pos) (tCallN0 ks.length sp gV E tk) := by
  refine ⟨fun pins s σ H Q I h => ?_⟩
  refine wpAny_Call_Name_kw (ld_glob I hg hm ?_ hdb)
  refine PySem.W.callWith_KW0 (h₀ := X.base) I.ok.mod.kin hk hall (thn (hkw.run pos pins s σ H _ I h) fun ws s2 ⟨zs, H2, I2, rz, l2, q2⟩ => ⟨I2.kIn, ?_⟩) hpl
  rw [hks]
  exact run_fnN (us := []) (vs := []) F hr hb hx I2 .nil rz rfl l2 q2
theorem FunD.ok0 {P : Program} {w : World} {K : PySem.W.Frag} {mg : Str → Option Value} {base : Heap} {x qual : Str} {params : Arguments} {body : List Stmt} {scope : Scope} {dvs : List V} {kws : List (Str × V)} {f : Addr} {fd : FuncData} {N ps : List Str} {k : Nat} {sp : Sp}
    (F : FunD K x qual params body scope dvs kws f fd) (S : FnScope N ps scope) (len : ∀ vs H Q E, sp vs H Q E → vs.length = ps.length)
    (hbody : ∀ (cdv : Value) (A : Around) (outer : List Env) (s : Shared) (H : Hp) (vs : List V) (Q : VK) (E : XK), Room k (A.deeper (envOfC qual scope s.heap.objs.size f cdv)) → sp vs H Q E →
      ∃ t, PSs (cxOf CX0 P w K mg base N qual scope f cdv A outer s H E).nox body t ∧ t { nx := fun _ H' => Q .non H', rt := Q } (start N vs) H) : FnOk P w K mg base CX0 (k + 1) f fd ps sp :=
  F.ok S len fun cdv A outer s H vs Q E hr h => by
    obtain ⟨t, a, b⟩ := hbody cdv A outer s H vs Q E hr h
    exact ⟨t, a.nox, b⟩
theorem u65 {k : Nat} {A : Around} (r : Room k A) : A.units + 65 < cLine := by have := r.un; omega
theorem u2 {k : Nat} {A : Around} (r : Room k A) : A.units + 1 < cLine := by have := r.un; omega
theorem ixT {X : Cx} {K : PySem.W.Frag} (h : X.K = K) : IxR X (rIxT K) := by subst h; exact ix_tup
theorem ixL {X : Cx} {K : PySem.W.Frag} (h : X.K = K) : IxR X (rIxL K) := by subst h; exact ix_list
theorem ixS {X : Cx} {K : PySem.W.Frag} (h : X.K = K) : IxR X (rIx K) := by subst h; exact ix_seq
theorem crSumK {X : Cx} {K : PySem.W.Frag} (hc : X.calm = true) (h : X.K = K) : CallR X (.builtin "sum") (rSum K) := by subst h; exact cr_sum hc
theorem callLenK {X : Cx} {K : PySem.W.Frag} (h : X.K = K) : CallR X (.builtin "len") (fun xs H Q => ∃ x n, xs = [x] ∧ LenV K x H n ∧ Q (.int n) H) := by subst h; exact call_len
theorem go_name {i : Nat} {v : V} {σ : L2.St} {H : Hp} {Q : L2.St → Hp → Prop} (h : Q (σ.set i (some v)) H) : gName i v σ H Q := h
theorem go_next {D : Ends} {σ : L2.St} {H : Hp} (h : D.nx σ H) : tNext D σ H := h
theorem go_seq {t u : TS} {D : Ends} {σ : L2.St} {H : Hp} (h : t { D with nx := u D } σ H) : tSeq t u D σ H := h
theorem go_asg {te : TE} {g : TG} {D : Ends} {σ : L2.St} {H : Hp} (h : te σ H fun x H1 => g x σ H1 D.nx) : tAsg te g D σ H := h
theorem both {te : TE} {σ : L2.St} {H : Hp} {Q : VK} (F : V → Hp → Prop) (main : ∀ v H', F v H' → Q v H') (step : ∀ Q' : VK, (∀ v H', F v H' → Q' v H') → te σ H Q') : te σ H Q := step Q main
theorem piLK {X : Cx} {K : PySem.W.Frag} {tg e : Expr} {t : TE} (h : X.K = K) (he : PE X e t) : PI X tg e (iList K t) := by subst h; exact pi_list he
theorem piTK {X : Cx} {K : PySem.W.Frag} {tg e : Expr} {t : TE} (h : X.K = K) (he : PE X e t) : PI X tg e (iTup K t) := by subst h; exact pi_tup he

/-! ### numbers in texts -/
section
open PySem.NumText
def dig (c : Nat) : Bool := decide (48 ≤ c) && decide (c ≤ 57)
theorem dig_iff {c : Nat} : dig c = true ↔ 48 ≤ c ∧ c ≤ 57 := by
  unfold dig
  rw [Bool.and_eq_true, decide_eq_true_eq, decide_eq_true_eq]
def isD (l : List Nat) : Bool := (!l.isEmpty && l.all dig) && decide (l.length ≤ 30)
theorem isD_iff {l : List Nat} : isD l = true ↔ l ≠ [] ∧ AllDigits l ∧ l.length ≤ 30 := by
  unfold isD
  rw [Bool.and_eq_true, Bool.and_eq_true, decide_eq_true_eq, List.all_eq_true]
  constructor
  · rintro ⟨⟨h1, h2⟩, h3⟩
    refine ⟨(fun z => by rw [z] at h1; cases h1), fun c hc => dig_iff.mp (h2 c hc), h3⟩
  · rintro ⟨h1, h2, h3⟩
    refine ⟨⟨?_, fun c hc => dig_iff.mpr (h2 c hc)⟩, h3⟩
    cases l with
    | nil => exact absurd rfl h1
    | cons => rfl
def lead0 (l : List Nat) : Bool := decide (1 < l.length) && decide (l.head? = some 48)
/-- the number, or none: digits without a leading zero -/
def pd (l : List Nat) : Option Nat := if (isD l && !lead0 l) = true then some (digitsVal l) else none
theorem back_chars : ∀ {l : List Nat}, AllDigits l → (l.map Char.ofNat).map Char.toNat = l
  | [], _ => rfl
  | c :: l, h => by
    rw [List.map_cons, List.map_cons, back_chars h.tail]
    have hc := h.head
    congr 1
    have : ∀ k, k < 10 → (Char.ofNat (48 + k)).toNat = 48 + k := by decide
    have z := this (c - 48) (by omega)
    rw [show 48 + (c - 48) = c by omega] at z
    exact z
theorem numL_canon {l : List Nat} (h : AllDigits l) (h1 : l ≠ []) (h0 : lead0 l = false) : TL.numL (digitsVal l) = l := by
  unfold TL.numL
  cases l with
  | nil => exact absurd rfl h1
  | cons c r =>
    rw [toDigits_digitsVal r.length (c :: r) rfl h ?_]
    · exact back_chars h
    · by_cases hr : r = []
      · subst hr; exact .inl rfl
      · right
        refine ⟨c, r, rfl, ?_⟩
        have hc := h.head
        by_cases e : c = 48
        · exfalso
          subst e
          have rl : 0 < r.length := List.length_pos_iff.mpr hr
          unfold lead0 at h0
          rw [decide_eq_true (show 1 < (48 :: r).length by rw [List.length_cons]; omega), decide_eq_true (show (48 :: r).head? = some 48 from rfl)] at h0
          cases h0
        · omega
theorem drop_len : ∀ l : List Nat, (l.dropWhile (· == 48)).length ≤ l.length
  | [] => Nat.le_refl _
  | c :: r => by
    rw [List.dropWhile_cons]
    split
    · have := drop_len r; rw [List.length_cons]; omega
    · exact Nat.le_refl _
theorem numL_lead {l : List Nat} (h : AllDigits l) (h0 : lead0 l = true) : TL.numL (digitsVal l) ≠ l := by
  unfold lead0 at h0
  rw [Bool.and_eq_true, decide_eq_true_eq, decide_eq_true_eq] at h0
  obtain ⟨h1, h2⟩ := h0
  cases l with
  | nil => cases h2
  | cons c r =>
    cases h2
    intro z
    have e := congrArg List.length z
    unfold TL.numL at e
    rw [toDigits_all _ h, List.length_map, List.dropWhile_cons] at e
    have d := drop_len r
    have hh : ((48 : Nat) == 48) = true := rfl
    simp only [hh, if_true] at e
    rw [List.length_cons] at h1 e
    split at e
    · have e' : 1 = r.length + 1 := e
      omega
    · rename_i q heq
      rw [List.length_map] at e
      rw [heq] at d
      omega
/-- the signs of a whole number -/
def sgnL (i : Int) : List Nat := if i < 0 then 45 :: TL.numL i.natAbs else TL.numL i.natAbs
theorem tl_int (i : Int) : TL.tl (Str.ofString (toString i)) = sgnL i := by
  unfold sgnL
  cases i with
  | ofNat n =>
    rw [if_neg (by exact Int.not_lt.mpr (Int.natCast_nonneg n))]
    exact TL.tl_num n
  | negSucc n =>
    rw [if_pos (Int.negSucc_lt_zero n)]
    have e : toString (Int.negSucc n) = "-" ++ Nat.repr (n + 1) := rfl
    have e2 : TL.tl (Str.ofString (Nat.repr (n + 1))) = TL.numL (n + 1) := TL.tl_num (n + 1)
    show TL.tl (Str.ofString (toString (Int.negSucc n))) = 45 :: TL.numL (n + 1)
    rw [e, ← e2]
    show (Str.ofString ("-" ++ Nat.repr (n + 1))).cps.toList = 45 :: (Str.ofString (Nat.repr (n + 1))).cps.toList
    rw [PySem.Str.ofString_eq_toList, PySem.Str.ofString_eq_toList]
    show ("-" ++ Nat.repr (n + 1)).toList.map Char.toNat = 45 :: (Nat.repr (n + 1)).toList.map Char.toNat
    rw [String.toList_append, List.map_append]
    rfl
theorem S_int (i : Int) : Str.ofString (toString i) = SX.S (sgnL i) := by rw [← tl_int, SX.S_tl]
/-- the canonical text of a fraction -/
def fmtL (f : Int × Int) : List Nat := if f.2 = 1 then sgnL f.1 else sgnL f.1 ++ 47 :: sgnL f.2
/-! ### parsing -/
def strip : List Nat → Bool × List Nat
  | 45 :: r => (true, r)
  | l => (false, l)
def pre (m : Bool) (u : List Nat) : List Nat := if m = true then 45 :: u else u
def sg (m : Bool) (k : Nat) : Int := if m = true then -(k : Int) else (k : Int)
theorem strip_pre (l : List Nat) : pre (strip l).1 (strip l).2 = l := by
  unfold strip
  split
  · rfl
  · rfl
theorem strip_app (p q : List Nat) : strip (p ++ 47 :: q) = ((strip p).1, (strip p).2 ++ 47 :: q) := by
  cases p with
  | nil => rfl
  | cons c p =>
    by_cases e : c = 45
    · subst e; rfl
    · have h : ∀ r : List Nat, strip (c :: r) = (false, c :: r) := fun r => by
        unfold strip
        split
        · rename_i heq; cases heq; exact absurd rfl e
        · rfl
      rw [List.cons_append, h, h]
      rfl
/-- the program's way -/
def prog2 (l : List Nat) (m : Bool) (u w : List Nat) : Option (Int × Int) :=
  if (isD u && isD w) = true then (if digitsVal w = 0 then none else if fmtL (red (sg m (digitsVal u)) (digitsVal w)) = l then some (red (sg m (digitsVal u)) (digitsVal w)) else none) else none
def progP (l : List Nat) : Option (Int × Int) :=
  match TL.par [47] [] (strip l).2 with
  | some (u, w) => prog2 l (strip l).1 u w
  | none => prog2 l (strip l).1 (strip l).2 [49]
/-- the law's way -/
def lawNum (m : Bool) (u : List Nat) : Option Int := match pd u with
  | none => none
  | some k => if m = true ∧ k = 0 then none else some (sg m k)
def lawRest (n : Int) : List (List Nat) → Option (Int × Int)
  | [] => some (n, 1)
  | [q] => (match pd q with
    | none => none
    | some d => if d < 2 then none else if red n d = (n, (d : Int)) then some (n, (d : Int)) else none)
  | _ :: _ :: _ => none
theorem lawRest_one (n : Int) (q : List Nat) : lawRest n [q] = (match pd q with | none => none | some d => if d < 2 then none else if red n d = (n, (d : Int)) then some (n, (d : Int)) else none) := rfl
def lawP (ps : List (List Nat)) : Option (Int × Int) := match ps with
  | [] => none
  | p :: rest => match lawNum (strip p).1 (strip p).2 with
    | none => none
    | some n => lawRest n rest
theorem sgnL_num (n : Nat) : sgnL (n : Int) = TL.numL n := by
  unfold sgnL
  rw [if_neg (by omega), Int.natAbs_natCast]
theorem numL_no45 {n : Nat} {l : List Nat} : TL.numL n ≠ 45 :: l := fun e => TL.numL_free (n := n) (s := 45) (.inl (by decide)) (by rw [e]; exact List.mem_cons_self)
theorem sgn_eq {m : Bool} {u : List Nat} (h : isD u = true) : sgnL (sg m (digitsVal u)) = pre m u ↔ lawNum m u = some (sg m (digitsVal u)) := by
  obtain ⟨h1, h2, h3⟩ := isD_iff.mp h
  have key : TL.numL (digitsVal u) = u ↔ lead0 u = false := by
    constructor
    · intro e
      cases z : lead0 u with
      | false => rfl
      | true => exact absurd e (numL_lead h2 z)
    · exact numL_canon h2 h1
  have pdv : pd u = if lead0 u = false then some (digitsVal u) else none := by
    unfold pd
    rw [h]
    cases lead0 u <;> rfl
  unfold lawNum
  rw [pdv]
  cases m with
  | false =>
    have e : sg false (digitsVal u) = ((digitsVal u : Nat) : Int) := rfl
    rw [e, sgnL_num]
    show TL.numL _ = u ↔ _
    rw [key]
    cases lead0 u <;> simp [sg]
  | true =>
    have e : sg true (digitsVal u) = -((digitsVal u : Nat) : Int) := rfl
    rw [e]
    show sgnL _ = 45 :: u ↔ _
    by_cases z : digitsVal u = 0
    · rw [z]
      have e2 : sgnL (-((0 : Nat) : Int)) = TL.numL 0 := rfl
      rw [e2]
      constructor
      · intro y; exact absurd y numL_no45
      · intro y
        cases w : lead0 u <;> rw [w] at y <;> simp at y
    · unfold sgnL
      rw [if_pos (by omega), Int.natAbs_neg, Int.natAbs_natCast]
      have e3 : (45 :: TL.numL (digitsVal u) = 45 :: u) ↔ TL.numL (digitsVal u) = u := by simp
      rw [e3, key]
      cases lead0 u <;> simp [z, sg]
theorem law_isD {m : Bool} {u : List Nat} {n : Int} (h : lawNum m u = some n) : isD u = true ∧ n = sg m (digitsVal u) := by
  unfold lawNum pd at h
  cases z : isD u with
  | false => rw [z] at h; simp at h
  | true =>
    rw [z] at h
    cases y : lead0 u with
    | true => rw [y] at h; simp at h
    | false =>
      rw [y] at h
      simp only [Bool.true_and, Bool.not_false, if_true] at h
      split at h
      · cases h
      · cases h; exact ⟨rfl, rfl⟩
theorem sgnL_free (i : Int) : 47 ∉ sgnL i := by
  unfold sgnL
  split
  · intro h
    rcases List.mem_cons.mp h with z | z
    · cases z
    · exact TL.numL_free (.inl (by decide)) z
  · exact TL.numL_free (.inl (by decide))
theorem app_inj {a b c d : List Nat} (ha : 47 ∉ a) (hc : 47 ∉ c) (h : a ++ 47 :: b = c ++ 47 :: d) : a = c ∧ b = d := by
  have e1 := TL.par_part1 (s := 47) (S := []) (acc := []) (rest := b) ha
  have e2 := TL.par_part1 (s := 47) (S := []) (acc := []) (rest := d) hc
  have h' : a ++ ([47] ++ b) = c ++ ([47] ++ d) := h
  rw [h', e2] at e1
  have e3 := Option.some.inj e1
  rw [List.nil_append, List.nil_append] at e3
  exact ⟨(Prod.mk.inj e3).1.symm, (Prod.mk.inj e3).2.symm⟩
theorem isD_free {u : List Nat} (h : isD u = true) : 47 ∉ u := fun z => by
  have := (isD_iff.mp h).2.1 47 z
  omega
theorem pre_free {m : Bool} {u : List Nat} (h : 47 ∉ u) : 47 ∉ pre m u := by
  cases m with
  | false => exact h
  | true =>
    intro z
    rcases List.mem_cons.mp z with y | y
    · cases y
    · exact h y
theorem red_den {n d : Int} (hd : 0 < d) (h : (red n d).2 = d) : red n d = (n, d) := by
  have e := red_eq (n := n) (d := d) (by omega)
  rw [h] at e
  exact Prod.ext (Int.eq_of_mul_eq_mul_right (by omega) e) h
theorem red_1 (n : Int) : red n 1 = (n, 1) := red_self (by decide) (by simp)
theorem par_cases (l : List Nat) : (47 ∉ l) ∨ ∃ p q, 47 ∉ p ∧ l = p ++ 47 :: q := by
  induction l with
  | nil => exact .inl (fun h => by cases h)
  | cons c r ih =>
    by_cases e : c = 47
    · subst e
      exact .inr ⟨[], r, (fun h => by cases h), rfl⟩
    · rcases ih with h | ⟨p, q, h, rfl⟩
      · refine .inl fun z => ?_
        rcases List.mem_cons.mp z with y | y
        · exact e y.symm
        · exact h y
      · refine .inr ⟨c :: p, q, fun z => ?_, rfl⟩
        rcases List.mem_cons.mp z with y | y
        · exact e y.symm
        · exact h y
theorem isD1 : isD [49] = true := by decide
theorem val1 : digitsVal [49] = 1 := by decide
theorem strip_free {l : List Nat} (h : 47 ∉ l) : 47 ∉ (strip l).2 := by
  unfold strip
  split
  · exact fun z => h (List.mem_cons_of_mem _ z)
  · exact h
/-- without a slash -/
theorem law_one (m : Bool) (u : List Nat) : prog2 (pre m u) m u [49] = (match lawNum m u with | none => none | some n => some (n, 1)) := by
  unfold prog2
  rw [isD1, Bool.and_true, val1]
  cases hu : isD u with
  | false =>
    have : lawNum m u = none := by
      cases z : lawNum m u with
      | none => rfl
      | some n => rw [(law_isD z).1] at hu; cases hu
    rw [this]
    rfl
  | true =>
    rw [if_pos rfl, if_neg (by decide), show red (sg m (digitsVal u)) ((1 : Nat) : Int) = (sg m (digitsVal u), 1) from red_1 _]
    have e : fmtL (sg m (digitsVal u), 1) = sgnL (sg m (digitsVal u)) := if_pos rfl
    rw [e]
    by_cases z : lawNum m u = some (sg m (digitsVal u))
    · rw [if_pos ((sgn_eq hu).mpr z), z]
    · rw [if_neg fun y => z ((sgn_eq hu).mp y)]
      cases y : lawNum m u with
      | none => rfl
      | some n => exact absurd (by rw [y, (law_isD y).2]) z
theorem pd_some {q : List Nat} {d : Nat} (h : pd q = some d) : isD q = true ∧ lead0 q = false ∧ d = digitsVal q := by
  unfold pd at h
  split at h
  · rename_i z
    rw [Bool.and_eq_true] at z
    cases h
    refine ⟨z.1, ?_, rfl⟩
    cases y : lead0 q with
    | false => rfl
    | true => rw [y] at z; exact absurd z.2 (by decide)
  · cases h
theorem pd_of {q : List Nat} (h : isD q = true) (h0 : lead0 q = false) : pd q = some (digitsVal q) := by
  unfold pd
  rw [h, h0]
  rfl
/-- with one slash -/
theorem law_two (m : Bool) (u q : List Nat) (fu : 47 ∉ u) (fq : 47 ∉ q) : prog2 (pre m u ++ 47 :: q) m u q = (match lawNum m u with | none => none | some n => (match pd q with | none => none | some d => if d < 2 then none else if red n d = (n, (d : Int)) then some (n, (d : Int)) else none)) := by
  unfold prog2
  cases hu : isD u with
  | false =>
    have : lawNum m u = none := by
      cases z : lawNum m u with
      | none => rfl
      | some n => rw [(law_isD z).1] at hu; cases hu
    rw [this]
    rfl
  | true =>
    cases hq : isD q with
    | false =>
      have : pd q = none := by unfold pd; rw [hq]; rfl
      rw [this]
      cases lawNum m u <;> rfl
    | true =>
      rw [show (true && true) = true from rfl, if_pos rfl]
      obtain ⟨q1, q2, q3⟩ := isD_iff.mp hq
      by_cases z0 : digitsVal q = 0
      · rw [if_pos z0]
        cases lawNum m u with
        | none => rfl
        | some n =>
          cases z : pd q with
          | none => rfl
          | some d =>
            have := (pd_some z).2.2
            show none = if d < 2 then none else _
            rw [if_pos (by omega)]
      · rw [if_neg z0]
        have dp : (0 : Int) < ((digitsVal q : Nat) : Int) := by omega
        have vp := red_pos (n := sg m (digitsVal u)) (d := ((digitsVal q : Nat) : Int)) (by omega)
        by_cases hz : fmtL (red (sg m (digitsVal u)) ((digitsVal q : Nat) : Int)) = pre m u ++ 47 :: q
        · rw [if_pos hz]
          unfold fmtL at hz
          by_cases h1 : (red (sg m (digitsVal u)) ((digitsVal q : Nat) : Int)).2 = 1
          · exfalso
            rw [if_pos h1] at hz
            exact sgnL_free _ (by rw [hz]; exact List.mem_append_right _ List.mem_cons_self)
          · rw [if_neg h1] at hz
            obtain ⟨a1, a2⟩ := app_inj (sgnL_free _) (pre_free fu) hz
            obtain ⟨k, hk⟩ : ∃ k : Nat, (red (sg m (digitsVal u)) ((digitsVal q : Nat) : Int)).2 = (k : Int) := ⟨_, (Int.toNat_of_nonneg (by omega)).symm⟩
            rw [hk, sgnL_num] at a2
            have kv : k = digitsVal q := by rw [← a2, TL.numL_val]
            have e := red_den dp (by rw [hk, kv])
            have l0 : lead0 q = false := by
              cases y : lead0 q with
              | false => rfl
              | true => exact absurd (by rw [← kv]; exact a2) (numL_lead q2 y)
            rw [e] at a1 ⊢
            rw [(sgn_eq hu).mp a1, pd_of hq l0]
            have h2 : ¬ digitsVal q < 2 := by
              rw [e] at h1
              have h1' : ¬ ((digitsVal q : Nat) : Int) = 1 := h1
              omega
            show _ = if digitsVal q < 2 then none else if red _ _ = _ then _ else _
            rw [if_neg h2, if_pos e]
        · rw [if_neg hz]
          cases y : lawNum m u with
          | none => rfl
          | some n =>
            obtain ⟨_, rfl⟩ := law_isD y
            cases x : pd q with
            | none => rfl
            | some d =>
              obtain ⟨_, l0, rfl⟩ := pd_some x
              show none = if digitsVal q < 2 then none else if red _ _ = _ then _ else none
              by_cases h2 : digitsVal q < 2
              · rw [if_pos h2]
              · rw [if_neg h2]
                by_cases e : red (sg m (digitsVal u)) ((digitsVal q : Nat) : Int) = (sg m (digitsVal u), ((digitsVal q : Nat) : Int))
                · exfalso
                  apply hz
                  rw [e]
                  unfold fmtL
                  rw [if_neg (show ¬ ((digitsVal q : Nat) : Int) = 1 by omega)]
                  show sgnL (sg m (digitsVal u)) ++ 47 :: sgnL ((digitsVal q : Nat) : Int) = _
                  rw [(sgn_eq hu).mpr y, sgnL_num, numL_canon q2 q1 l0]
                · rw [if_neg e]
theorem spl_ne (l : List Nat) : ∃ a r, TL.spl [47] 0 [] l = a :: r := by
  rcases par_cases l with h | ⟨p, q, hp, rfl⟩
  · exact ⟨l, [], by rw [TL.spl_last1 h, List.nil_append]⟩
  · exact ⟨p, TL.spl [47] 0 [] q, by
      have e := TL.spl_part1 (s := 47) (S := []) (acc := []) (rest := q) hp
      rw [List.nil_append] at e
      exact e⟩
theorem prog_law (l : List Nat) : progP l = lawP (TL.spl [47] 0 [] l) := by
  rcases par_cases l with h | ⟨p, q, hp, rfl⟩
  · rw [TL.spl_last1 h, List.nil_append]
    unfold progP
    rw [TL.par_none1 (strip_free h)]
    show prog2 l (strip l).1 (strip l).2 [49] = _
    have e := law_one (strip l).1 (strip l).2
    rw [strip_pre] at e
    rw [e]
    have : lawP [l] = (match lawNum (strip l).1 (strip l).2 with | none => none | some n => some (n, 1)) := rfl
    rw [this]
  · have es := TL.spl_part1 (s := 47) (S := []) (acc := []) (rest := q) hp
    rw [List.nil_append] at es
    have es' : TL.spl [47] 0 [] (p ++ 47 :: q) = p :: TL.spl [47] 0 [] q := es
    rw [es']
    unfold progP
    rw [strip_app]
    have ep := TL.par_part1 (s := 47) (S := []) (acc := []) (rest := q) (strip_free hp)
    rw [List.nil_append] at ep
    have ep' : TL.par [47] [] ((strip p).2 ++ 47 :: q) = some ((strip p).2, q) := ep
    show (match TL.par [47] [] ((strip p).2 ++ 47 :: q) with | some (u, w) => prog2 _ (strip p).1 u w | none => _) = _
    rw [ep']
    show prog2 (p ++ 47 :: q) (strip p).1 (strip p).2 q = _
    rcases par_cases q with h | ⟨q1, q2, hq, rfl⟩
    · rw [TL.spl_last1 h, List.nil_append]
      have e := law_two (strip p).1 (strip p).2 q (strip_free hp) h
      rw [strip_pre] at e
      rw [e]
      rfl
    · have e2 := TL.spl_part1 (s := 47) (S := []) (acc := []) (rest := q2) hq
      rw [List.nil_append] at e2
      have e2' : TL.spl [47] 0 [] (q1 ++ 47 :: q2) = q1 :: TL.spl [47] 0 [] q2 := e2
      obtain ⟨a, r, e3⟩ := spl_ne q2
      rw [e2', e3]
      have nd : isD (q1 ++ 47 :: q2) = false := by
        cases y : isD (q1 ++ 47 :: q2) with
        | false => rfl
        | true => exact absurd (List.mem_append_right _ List.mem_cons_self) (isD_free y)
      unfold prog2
      rw [nd, Bool.and_false]
      have : lawP (p :: q1 :: a :: r) = (match lawNum (strip p).1 (strip p).2 with | none => none | some n => none) := rfl
      rw [this]
      cases lawNum (strip p).1 (strip p).2 <;> rfl
/-! ### the text's own operations -/
theorem slash_S : ("/" : Str) = SX.S [47] := by decide +kernel
theorem minus_S : ("-" : Str) = SX.S [45] := by decide +kernel
theorem one_S : ("1" : Str) = SX.S [49] := by decide +kernel
theorem sub_minus (z : Str) : PySem.Builtin.Str.subAt z "-" 0 = (strip (TL.tl z)).1 := by
  rw [PySem.StrLaws.subAt_eq]
  show ((TL.tl z).take ("-" : Str).length == ("-" : Str).cps.toList) = _
  rw [show ("-" : Str).length = 1 by decide +kernel, show ("-" : Str).cps.toList = [45] by decide +kernel]
  generalize TL.tl z = l
  cases l with
  | nil => rfl
  | cons c r =>
    show ([c] == [45]) = _
    by_cases e : c = 45
    · subst e; rfl
    · have h : strip (c :: r) = (false, c :: r) := by
        unfold strip
        split
        · rename_i heq; cases heq; exact absurd rfl e
        · rfl
      rw [h]
      simp [e]
theorem rp_minus (z : Str) : Txt.removeprefix z "-" = SX.S (strip (TL.tl z)).2 := by
  unfold Txt.removeprefix Txt.affix
  rw [sub_minus]
  have hp := strip_pre (TL.tl z)
  cases h : (strip (TL.tl z)).1 with
  | false =>
    rw [h] at hp
    have hp' : (strip (TL.tl z)).2 = TL.tl z := hp
    rw [hp']
    exact (SX.S_tl z).symm
  | true =>
    rw [h] at hp
    have hp' : 45 :: (strip (TL.tl z)).2 = TL.tl z := hp
    have hl : z.length = (strip (TL.tl z)).2.length + 1 := by rw [TL.len_tl]; exact (congrArg List.length hp').symm
    show (if (z.length - ("-" : Str).length == z.length) = true then z else PySem.Builtin.Str.strSub z ("-" : Str).length z.length) = _
    rw [show ("-" : Str).length = 1 by decide +kernel, if_neg (by rw [beq_iff_eq]; omega)]
    refine TL.ext_tl ?_
    rw [TL.tl_strSub_end, ← hp']
    rfl
theorem sw_minus (z : Str) : Txt.startswith z "-" = (strip (TL.tl z)).1 := by
  unfold Txt.startswith
  rw [sub_minus, show ("-" : Str).length = 1 by decide +kernel]
  cases h : (strip (TL.tl z)).1 with
  | false => simp
  | true =>
    have hp := strip_pre (TL.tl z)
    rw [h] at hp
    have hp' : 45 :: (strip (TL.tl z)).2 = TL.tl z := hp
    have hl : z.length = (strip (TL.tl z)).2.length + 1 := by rw [TL.len_tl]; exact (congrArg List.length hp').symm
    simp
    omega
theorem part_some {l u w : List Nat} (h : TL.par [47] [] l = some (u, w)) : Txt.partition (SX.S l) "/" = (SX.S u, ("/" : Str), SX.S w) := by
  rw [slash_S]
  exact SX.partition_some (by simp) h
theorem part_none {l : List Nat} (h : TL.par [47] [] l = none) : Txt.partition (SX.S l) "/" = (SX.S l, ("" : Str), ("" : Str)) := by
  rw [slash_S]
  exact SX.partition_none (by simp) h
theorem ascii_dig : ∀ c, c < 128 → Unicode.isDigit c = dig c := by decide +kernel
theorem digits_all (z : Str) : (Txt.isascii z && Txt.isdigit z) = (!(TL.tl z).isEmpty && (TL.tl z).all dig) := by
  unfold Txt.isascii Txt.isdigit
  have e1 : z.cps.all (fun c => decide (c < 128)) = (TL.tl z).all fun c => decide (c < 128) := (Array.all_toList).symm
  have e2 : z.cps.all Unicode.isDigit = (TL.tl z).all Unicode.isDigit := (Array.all_toList).symm
  rw [e1, e2, show decide (z.length > 0) = !(TL.tl z).isEmpty by rw [TL.len_tl]; cases TL.tl z <;> simp]
  generalize TL.tl z = l
  have key : ∀ l : List Nat, ((l.all fun c => decide (c < 128)) && l.all Unicode.isDigit) = l.all dig := by
    intro l
    induction l with
    | nil => rfl
    | cons c l ih =>
      rw [List.all_cons, List.all_cons, List.all_cons, ← ih]
      by_cases h : c < 128
      · rw [decide_eq_true h, ascii_dig c h]
        cases dig c <;> cases (l.all fun c => decide (c < 128)) <;> cases l.all Unicode.isDigit <;> rfl
      · have : dig c = false := by unfold dig; rw [decide_eq_false (show ¬ c ≤ 57 by omega), Bool.and_false]
        rw [decide_eq_false h, this]
        simp
  rw [← key l]
  cases l.isEmpty <;> cases (l.all fun c => decide (c < 128)) <;> cases l.all Unicode.isDigit <;> rfl
theorem split_slash (z : Str) : Txt.split z "/" = (TL.spl [47] 0 [] (TL.tl z)).map SX.S := by
  have e := SX.split_S (a := TL.tl z) (b := [47]) (by simp) (by decide)
  rw [SX.S_tl] at e
  rw [slash_S]
  exact e
theorem isD_int {z : Str} (h : isD (TL.tl z) = true) : PySem.intText? z = some ((digitsVal (TL.tl z) : Nat) : Int) ∧ z.length ≤ 640 := by
  obtain ⟨h1, h2, h3⟩ := isD_iff.mp h
  have hl : z.length ≤ 30 := by rw [TL.len_tl]; exact h3
  exact ⟨intText_digits h2 h1 (by omega), by omega⟩
theorem val_lt {l : List Nat} (h : isD l = true) : digitsVal l < 10 ^ 30 := by
  obtain ⟨h1, h2, h3⟩ := isD_iff.mp h
  have gen : ∀ (l : List Nat) (a k : Nat), AllDigits l → a < 10 ^ k → l.foldl (fun acc c => acc * 10 + (c - 48)) a < 10 ^ (k + l.length) := by
    intro l
    induction l with
    | nil => intro a k _ h; exact h
    | cons c l ih =>
      intro a k hd ha
      have hc := hd.head
      have e := ih (a * 10 + (c - 48)) (k + 1) hd.tail (by rw [Nat.pow_succ]; omega)
      rw [List.foldl_cons, List.length_cons, show k + (l.length + 1) = k + 1 + l.length by omega]
      exact e
  have e := gen l 0 0 h2 (by decide)
  exact Nat.lt_of_lt_of_le e (Nat.pow_le_pow_right (by decide) (by omega))
theorem par_len {l u w : List Nat} (h : TL.par [47] [] l = some (u, w)) : u.length ≤ l.length ∧ w.length ≤ l.length := by
  rcases par_cases l with hn | ⟨p, q, hp, rfl⟩
  · rw [TL.par_none1 hn] at h; cases h
  · have e := TL.par_part1 (s := 47) (S := []) (acc := []) (rest := q) hp
    have e' : TL.par [47] [] (p ++ 47 :: q) = some ([] ++ p, q) := e
    rw [e', List.nil_append] at h
    cases h
    rw [List.length_append, List.length_cons]
    omega
theorem cut1 (l : List Nat) : cutS (SX.S l) none (some 1) = SX.S (l.take 1) := by
  have e : cutS (SX.S l) none (some 1) = SX.S ((l.drop (HT.sIx (SX.S l).length 0 none)).take (HT.sIx (SX.S l).length (SX.S l).length (some 1) - HT.sIx (SX.S l).length 0 none)) := rfl
  rw [e, HT.sIx_none, show HT.sIx (SX.S l).length (SX.S l).length (some 1) = min 1 (SX.S l).length from HT.sIx_nat _ _ 1, List.drop_zero, SX.S_len]
  cases l with
  | nil => rfl
  | cons c r => rw [show min 1 (c :: r).length - 0 = 1 by rw [List.length_cons]; omega]
theorem cutR (l : List Nat) : cutS (SX.S l) (some 1) none = SX.S (l.drop 1) := by
  have e : cutS (SX.S l) (some 1) none = SX.S ((l.drop (HT.sIx (SX.S l).length 0 (some 1))).take (HT.sIx (SX.S l).length (SX.S l).length none - HT.sIx (SX.S l).length 0 (some 1))) := rfl
  rw [e, HT.sIx_none, show HT.sIx (SX.S l).length 0 (some 1) = min 1 (SX.S l).length from HT.sIx_nat _ _ 1, SX.S_len]
  cases l with
  | nil => rfl
  | cons c r =>
    rw [show min 1 (c :: r).length = 1 by rw [List.length_cons]; omega]
    congr 1
    exact List.take_of_length_le (by simp)
theorem minus_is (l : List Nat) : decide (V.str (cutS (SX.S l) none (some 1)) = V.str "-") = (strip l).1 := by
  rw [cut1, minus_S]
  have e : (V.str (SX.S (l.take 1)) = V.str (SX.S [45])) ↔ l.take 1 = [45] := ⟨fun h => SX.S_inj (V.str.inj h), fun h => by rw [h]⟩
  rw [decide_eq_decide.mpr e]
  cases l with
  | nil => rfl
  | cons c r =>
    by_cases h : c = 45
    · subst h; rfl
    · have hs : strip (c :: r) = (false, c :: r) := by
        unfold strip
        split
        · rename_i heq; cases heq; exact absurd rfl h
        · rfl
      rw [hs]
      exact decide_eq_false fun z => h (by simpa using z)
theorem strip_drop {l : List Nat} (h : (strip l).1 = true) : l.drop 1 = (strip l).2 := by
  have e := strip_pre l
  rw [h] at e
  have e' : 45 :: (strip l).2 = l := e
  rw [← e']
  rfl
theorem strip_same {l : List Nat} (h : (strip l).1 = false) : (strip l).2 = l := by
  have e := strip_pre l
  rw [h] at e
  exact e
theorem strip_len (l : List Nat) : (strip l).2.length ≤ l.length := by
  have e := congrArg List.length (strip_pre l)
  unfold pre at e
  split at e
  · rw [List.length_cons] at e; omega
  · omega
theorem eqv_fr (a b c d : Int) : PyData.eqv (.tuple [.int a, .int b]) (.tuple [.int c, .int d]) = decide ((a, b) = (c, d)) := by
  simp only [PyData.eqv, PyData.eqvAll, Bool.and_true]
  by_cases h1 : a = c
  · subst h1
    by_cases h2 : b = d
    · subst h2; simp
    · simp [h2]
  · simp [h1]
theorem spl_len : ∀ (l : List Nat), ∀ q ∈ TL.spl [47] 0 [] l, q.length ≤ l.length := by
  intro l
  induction hn : l.length using Nat.strongRecOn generalizing l with
  | _ n ih =>
    intro q hq
    rcases par_cases l with h | ⟨p, r, hp, rfl⟩
    · rw [TL.spl_last1 h, List.nil_append] at hq
      rw [List.mem_singleton.mp hq]
      omega
    · have e := TL.spl_part1 (s := 47) (S := []) (acc := []) (rest := r) hp
      have e' : TL.spl [47] 0 [] (p ++ 47 :: r) = ([] ++ p) :: TL.spl [47] 0 [] r := e
      rw [e', List.nil_append] at hq
      rw [List.length_append, List.length_cons] at hn
      rcases List.mem_cons.mp hq with z | z
      · rw [z]; omega
      · have := ih r.length (by omega) r rfl q z
        omega
theorem spl_count : ∀ (l : List Nat), (TL.spl [47] 0 [] l).length ≤ l.length + 1 := by
  intro l
  induction hn : l.length using Nat.strongRecOn generalizing l with
  | _ n ih =>
    rcases par_cases l with h | ⟨p, r, hp, rfl⟩
    · rw [TL.spl_last1 h]
      show 1 ≤ _
      omega
    · have e := TL.spl_part1 (s := 47) (S := []) (acc := []) (rest := r) hp
      have e' : TL.spl [47] 0 [] (p ++ 47 :: r) = ([] ++ p) :: TL.spl [47] 0 [] r := e
      rw [e', List.length_cons]
      rw [List.length_append, List.length_cons] at hn
      have := ih r.length (by omega) r rfl
      omega
/-- a text some times -/
theorem op_mulS {X : Cx} : OpR X (binaryOp .Mult) (fun x y H Q => ∃ (i : Str) (n : Int), x = .str i ∧ y = .int n ∧ MulOk i n ∧ Q (.str (Txt.mul i n)) H) := by
  intro pins s σ H x y v u Q I rx ry h
  obtain ⟨i, n, rfl, rfl, ok, q⟩ := h
  obtain ⟨t1, rfl⟩ := rx
  obtain ⟨t2, rfl⟩ := ry
  exact PySem.SB.mul ok fun t' k => ⟨.str (Txt.mul i n), H, I.tok _, ⟨_, rfl⟩, q⟩
theorem mulOk_7 : ∀ n : Nat, n < 40 → MulOk "7" (n : Int) := by
  intro n hn
  have l : ("7" : Str).length = 1 := by decide +kernel
  refine ⟨by simp; omega, fun _ _ => ?_, fun _ _ => ?_⟩
  · rw [l]
    intro h
    have h2 : (2 ^ 63 - 1 : Int) / (n : Int) < 1 := h
    have h3 : (1 : Int) ≤ (2 ^ 63 - 1) / (n : Int) := by
      by_cases z : n = 0
      · subst z; omega
      · exact (Int.le_ediv_iff_mul_le (by omega)).mpr (by omega)
    omega
  · rw [l, Nat.one_mul, Int.toNat_natCast]
    have : ∀ k, k < 40 → PySem.Builtin.Str.tooLong k = false := by decide +kernel
    exact this n hn
theorem mul7_len : ∀ n : Nat, n < 40 → (Txt.mul "7" (n : Int)).length ≤ 40 := by decide +kernel
theorem lead_num (k : Nat) : lead0 (TL.numL k) = false := by
  cases h : lead0 (TL.numL k) with
  | false => rfl
  | true => exact absurd (by rw [TL.numL_val]) (numL_lead (TL.numL_digits k) h)
theorem isD_num {k : Nat} (h : k < 10 ^ 30) : isD (TL.numL k) = true := isD_iff.mpr ⟨TL.numL_ne k, TL.numL_digits k, TL.numL_len (by decide) h⟩
theorem pd_num {k : Nat} (h : k < 10 ^ 30) : pd (TL.numL k) = some k := by
  rw [pd_of (isD_num h) (lead_num k), TL.numL_val]
theorem strip_num (k : Nat) : strip (TL.numL k) = (false, TL.numL k) := by
  unfold strip
  split
  · rename_i heq
    exact absurd heq numL_no45
  · rfl
theorem law_sgn {n : Int} (h : n.natAbs < 10 ^ 30) : lawNum (strip (sgnL n)).1 (strip (sgnL n)).2 = some n := by
  unfold sgnL
  split
  · show lawNum true (TL.numL n.natAbs) = some n
    unfold lawNum
    rw [pd_num h]
    show (if true = true ∧ n.natAbs = 0 then none else some (sg true n.natAbs)) = some n
    rw [if_neg (by omega)]
    show some (-(n.natAbs : Int)) = some n
    congr 1
    omega
  · rw [strip_num]
    unfold lawNum
    rw [pd_num h]
    show (if false = true ∧ n.natAbs = 0 then none else some (sg false n.natAbs)) = some n
    rw [if_neg (by simp)]
    show some (n.natAbs : Int) = some n
    congr 1
    omega
/-- the canonical text is read back -/
theorem prog_fmt {n d : Int} (hd : 0 < d) (g : Int.gcd n d = 1) (hn : n.natAbs < 10 ^ 30) (hD : d.natAbs < 10 ^ 30) : progP (fmtL (n, d)) = some (n, d) := by
  rw [prog_law]
  unfold fmtL
  by_cases e : d = 1
  · rw [if_pos e, TL.spl_last1 (sgnL_free n), List.nil_append]
    have : lawP [sgnL n] = (match lawNum (strip (sgnL n)).1 (strip (sgnL n)).2 with | none => none | some n => some (n, 1)) := rfl
    rw [this, law_sgn hn, e]
  · rw [if_neg e]
    have es := TL.spl_part1 (s := 47) (S := []) (acc := []) (rest := sgnL d) (sgnL_free n)
    have es' : TL.spl [47] 0 [] (sgnL n ++ 47 :: sgnL d) = ([] ++ sgnL n) :: TL.spl [47] 0 [] (sgnL d) := es
    show lawP (TL.spl [47] 0 [] (sgnL n ++ 47 :: sgnL d)) = _
    rw [es', TL.spl_last1 (sgnL_free d), List.nil_append, List.nil_append]
    have e2 : lawP [sgnL n, sgnL d] = (match lawNum (strip (sgnL n)).1 (strip (sgnL n)).2 with | none => none | some n => lawRest n [sgnL d]) := rfl
    rw [e2, law_sgn hn]
    show lawRest n [sgnL d] = _
    have e3 : sgnL d = TL.numL d.natAbs := by unfold sgnL; rw [if_neg (by omega)]
    rw [lawRest_one, e3, pd_num hD]
    have e4 : ((d.natAbs : Nat) : Int) = d := by omega
    show (if d.natAbs < 2 then none else if red n (d.natAbs : Int) = (n, ((d.natAbs : Nat) : Int)) then some (n, ((d.natAbs : Nat) : Int)) else none) = _
    rw [e4, if_neg (by omega), if_pos (red_self hd g)]
theorem sgnL_len {n : Int} (h : n.natAbs < 10 ^ 30) : (sgnL n).length ≤ 31 := by
  have := TL.numL_len (n := n.natAbs) (k := 30) (by decide) h
  unfold sgnL
  split
  · rw [List.length_cons]; omega
  · omega
theorem fmtL_len {n d : Int} (h : n.natAbs < 10 ^ 30) (h2 : d.natAbs < 10 ^ 30) : (fmtL (n, d)).length ≤ 63 := by
  have a := sgnL_len h
  have b := sgnL_len h2
  unfold fmtL
  split
  · show (sgnL n).length ≤ _; omega
  · show (sgnL n ++ 47 :: sgnL d).length ≤ _
    rw [List.length_append, List.length_cons]; omega
end
/-! ### names -/
def kws4 : List V := [.str "max", .str "min", .str "median", .str "mix"]
def lowB (c : Nat) : Bool := decide (97 ≤ c) && decide (c ≤ 122)
def nameB (z : Str) : Bool := (decide (1 ≤ z.length) && decide (z.length ≤ 6)) && (z.cps.toList.all lowB && !inV (.str z) kws4)
theorem one_lt {c d : Nat} : ([c] < [d]) ↔ c < d := by simp [List.cons_lt_cons_iff]
theorem str_a : (("a" : Str)).cps.toList = [97] := by decide +kernel
theorem str_z : (("z" : Str)).cps.toList = [122] := by decide +kernel
theorem le_a {c : Nat} : (!decide ((⟨#[c]⟩ : Str).cps.toList < ("a" : Str).cps.toList)) = decide (97 ≤ c) := by
  rw [str_a]
  show (!decide ([c] < [97])) = _
  by_cases h : c < 97
  · rw [decide_eq_true (one_lt.mpr h), decide_eq_false (by omega)]; rfl
  · rw [decide_eq_false (fun z => h (one_lt.mp z)), decide_eq_true (by omega)]; rfl
theorem le_z {c : Nat} : (!decide (("z" : Str).cps.toList < (⟨#[c]⟩ : Str).cps.toList)) = decide (c ≤ 122) := by
  rw [str_z]
  show (!decide ([122] < [c])) = _
  by_cases h : 122 < c
  · rw [decide_eq_true (one_lt.mpr h), decide_eq_false (by omega)]; rfl
  · rw [decide_eq_false (fun z => h (one_lt.mp z)), decide_eq_true (by omega)]; rfl
theorem abc_mem {c : Nat} : decide (c ∈ (("abcdefghijklmnopqrstuvwxyz" : Str)).cps.toList) = lowB c := by
  have e : (("abcdefghijklmnopqrstuvwxyz" : Str)).cps.toList = (List.range 26).map (· + 97) := by decide +kernel
  rw [e]
  unfold lowB
  by_cases h : 97 ≤ c ∧ c ≤ 122
  · rw [decide_eq_true h.1, decide_eq_true h.2]
    exact decide_eq_true (List.mem_map.mpr ⟨c - 97, by rw [List.mem_range]; omega, by omega⟩)
  · have z : (decide (97 ≤ c) && decide (c ≤ 122)) = false := by
      cases h1 : decide (97 ≤ c) <;> cases h2 : decide (c ≤ 122)
      · rfl
      · rfl
      · rfl
      · exact absurd ⟨of_decide_eq_true h1, of_decide_eq_true h2⟩ h
    rw [z]
    refine decide_eq_false fun hm => ?_
    obtain ⟨x, hx, e⟩ := List.mem_map.mp hm
    rw [List.mem_range] at hx
    omega
theorem tk_more {α β : Type} {f : α → β} {l : List α} {i : Nat} {c : α} (h : l[i]? = some c) : ((l.take (i + 1)).map f) = (l.take i).map f ++ [f c] := by
  rw [List.take_add_one, h, List.map_append]
  rfl
theorem cps_len (z : Str) : z.cps.toList.length = z.length := by simp [Str.length]
theorem gcd_fmod {a b : Int} : Int.gcd b (a.fmod b) = Int.gcd a b := by
  rw [Int.fmod_def, Int.gcd_sub_mul_left_right, Int.gcd_comm]
theorem fmod_lt {a b : Int} (hb : b ≠ 0) : (a.fmod b).natAbs < b.natAbs := by
  have pos : ∀ x y : Int, 0 < y → (x.fmod y).natAbs < y.natAbs := fun x y h => by
    rw [Int.fmod_eq_emod_of_nonneg x (by omega)]
    have h1 := Int.emod_nonneg x (show y ≠ 0 by omega)
    have h2 := Int.emod_lt_of_pos x h
    omega
  rcases Int.lt_or_lt_of_ne hb with h | h
  · have e := pos (-a) (-b) (by omega)
    rw [Int.neg_fmod_neg] at e
    omega
  · exact pos a b h
theorem frac_red {n d : Int} (hd : d ≠ 0) : (n.fdiv (if d < 0 then -(Int.gcd n d : Int) else (Int.gcd n d : Int)), d.fdiv (if d < 0 then -(Int.gcd n d : Int) else (Int.gcd n d : Int))) = red n d := by
  have g0 := gcd_posI (n := n) hd
  have d1 := Int.gcd_dvd_left n d
  have d2 := Int.gcd_dvd_right n d
  unfold red
  generalize (Int.gcd n d : Int) = g at *
  by_cases h : d < 0
  · rw [if_pos h, if_neg (show ¬ d > 0 by omega), Int.fdiv_eq_ediv_of_dvd (Int.neg_dvd.mpr d1), Int.fdiv_eq_ediv_of_dvd (Int.neg_dvd.mpr d2), Int.ediv_neg, Int.ediv_neg]
    rw [show (-1 : Int) * n = -n by omega, show (-1 : Int) * d = -d by omega, Int.neg_ediv_of_dvd d1, Int.neg_ediv_of_dvd d2]
  · rw [if_neg h, if_pos (show d > 0 by omega), Int.fdiv_eq_ediv_of_dvd d1, Int.fdiv_eq_ediv_of_dvd d2, Int.one_mul, Int.one_mul]
theorem red_congr {n d n' d' : Int} (hd : d ≠ 0) (hd' : d' ≠ 0) (h : n * d' = n' * d) : red n d = red n' d' := by
  refine red_unique hd (red_pos hd') (red_gcd hd') ?_
  have e := red_eq (n := n') hd'
  apply Int.eq_of_mul_eq_mul_right hd'
  calc (red n' d').1 * d * d' = ((red n' d').1 * d') * d := by grind
    _ = n' * d * (red n' d').2 := by rw [e]; grind
    _ = n * (red n' d').2 * d' := by rw [← h]; grind
/-! ### sums -/
abbrev QQ := Int × Int
def Low (a : QQ) : Prop := 0 < a.2 ∧ Int.gcd a.1 a.2 = 1
def radd (a b : QQ) : QQ := red (a.1 * b.2 + b.1 * a.2) (a.2 * b.2)
theorem pos_ne {a b : Int} (ha : 0 < a) (hb : 0 < b) : a * b ≠ 0 := Int.ne_of_gt (Int.mul_pos ha hb)
theorem low_red {n d : Int} (hd : d ≠ 0) : Low (red n d) := ⟨red_pos hd, red_gcd hd⟩
theorem low_add {a b : QQ} (ha : Low a) (hb : Low b) : Low (radd a b) := low_red (pos_ne ha.1 hb.1)
theorem radd_eq {a b : QQ} (ha : Low a) (hb : Low b) : (radd a b).1 * (a.2 * b.2) = (a.1 * b.2 + b.1 * a.2) * (radd a b).2 := red_eq (pos_ne ha.1 hb.1)
theorem radd_assoc {a b c : QQ} (ha : Low a) (hb : Low b) (hc : Low c) : radd (radd a b) c = radd a (radd b c) := by
  have lab := low_add ha hb
  have lbc := low_add hb hc
  have e1 := radd_eq ha hb
  have e2 := radd_eq hb hc
  show red _ _ = red _ _
  refine (red_congr (n' := a.1 * b.2 * c.2 + b.1 * a.2 * c.2 + c.1 * a.2 * b.2) (d' := a.2 * b.2 * c.2) (pos_ne lab.1 hc.1) (Int.ne_of_gt (Int.mul_pos (Int.mul_pos ha.1 hb.1) hc.1)) ?_).trans (red_congr (pos_ne ha.1 lbc.1) (Int.ne_of_gt (Int.mul_pos (Int.mul_pos ha.1 hb.1) hc.1)) ?_).symm
  · generalize radd a b = x at *
    grind
  · generalize radd b c = x at *
    grind
theorem radd_zero {b : QQ} (hb : Low b) : radd b (0, 1) = b := by
  show red (b.1 * 1 + 0 * b.2) (b.2 * 1) = b
  rw [show b.1 * 1 + 0 * b.2 = b.1 by omega, show b.2 * 1 = b.2 by omega]
  exact red_self hb.1 hb.2
theorem zero_radd {b : QQ} (hb : Low b) : radd (0, 1) b = b := by
  show red (0 * b.2 + b.1 * 1) (1 * b.2) = b
  rw [show 0 * b.2 + b.1 * 1 = b.1 by omega, show 1 * b.2 = b.2 by omega]
  exact red_self hb.1 hb.2
theorem low0 : Low (0, 1) := ⟨by decide, by decide⟩
theorem low_sum : ∀ {fs : List QQ} {s : QQ}, Low s → (∀ f ∈ fs, Low f) → Low (fs.foldl radd s)
  | [], _, h, _ => h
  | f :: fs, s, h, k => low_sum (fs := fs) (s := radd s f) (low_add h (k f List.mem_cons_self)) fun g hg => k g (List.mem_cons_of_mem _ hg)
theorem sum_from : ∀ {fs : List QQ} {s : QQ}, Low s → (∀ f ∈ fs, Low f) → fs.foldl radd s = radd s (fs.foldl radd (0, 1))
  | [], s, h, _ => (radd_zero h).symm
  | f :: fs, s, h, k => by
    have hf := k f List.mem_cons_self
    have kk : ∀ g ∈ fs, Low g := fun g hg => k g (List.mem_cons_of_mem _ hg)
    show fs.foldl radd (radd s f) = radd s (fs.foldl radd (radd (0, 1) f))
    rw [sum_from (low_add h hf) kk, zero_radd hf, sum_from hf kk, radd_assoc h hf (low_sum low0 kk)]
theorem add_bd {a b : QQ} {A B : Nat} (ha : 0 < a.2) (hb : 0 < b.2) (a1 : a.1.natAbs < 2 ^ A) (a2 : a.2.natAbs < 2 ^ A) (b1 : b.1.natAbs < 2 ^ B) (b2 : b.2.natAbs < 2 ^ B) : (radd a b).1.natAbs < 2 ^ (A + B + 1) ∧ (radd a b).2.natAbs < 2 ^ (A + B + 1) := by
  have hd : a.2 * b.2 ≠ 0 := pos_ne ha hb
  have m1 : (a.1 * b.2).natAbs < 2 ^ (A + B) := by rw [Int.natAbs_mul, Nat.pow_add]; exact Nat.mul_lt_mul'' a1 b2
  have m2 : (b.1 * a.2).natAbs < 2 ^ (A + B) := by rw [Int.natAbs_mul, Nat.pow_add, Nat.mul_comm]; exact Nat.mul_lt_mul'' a2 b1
  have m3 : (a.2 * b.2).natAbs < 2 ^ (A + B) := by rw [Int.natAbs_mul, Nat.pow_add]; exact Nat.mul_lt_mul'' a2 b2
  have e : (2 : Nat) ^ (A + B + 1) = 2 ^ (A + B) * 2 := Nat.pow_succ ..
  have n1 : (radd a b).1.natAbs ≤ (a.1 * b.2 + b.1 * a.2).natAbs := red_le1 hd
  have n2 : (radd a b).2.natAbs ≤ (a.2 * b.2).natAbs := red_le2 hd
  have n3 := Int.natAbs_add_le (a.1 * b.2) (b.1 * a.2)
  omega
/-! ### extremes -/
def rlt (a b : QQ) : Bool := decide (a.1 * b.2 < b.1 * a.2)
theorem rlt_same {a b : QQ} (ha : Low a) (hb : Low b) (h1 : rlt a b = false) (h2 : rlt b a = false) : a = b := by
  have e1 : ¬ a.1 * b.2 < b.1 * a.2 := of_decide_eq_false h1
  have e2 : ¬ b.1 * a.2 < a.1 * b.2 := of_decide_eq_false h2
  obtain ⟨x, y⟩ := low_unique ha.1 hb.1 ha.2 hb.2 (by omega)
  exact Prod.ext x y
theorem rlt_irr {a : QQ} : rlt a a = false := decide_eq_false (by omega)
theorem rlt_trans' {a b c : QQ} (ha : 0 < a.2) (hb : 0 < b.2) (hc : 0 < c.2) (h1 : rlt a b = true) (h2 : rlt c b = false) : rlt a c = true := by
  have e1 : a.1 * b.2 < b.1 * a.2 := of_decide_eq_true h1
  have e2 : ¬ c.1 * b.2 < b.1 * c.2 := of_decide_eq_false h2
  refine decide_eq_true ?_
  have k1 : a.1 * b.2 * c.2 < b.1 * a.2 * c.2 := Int.mul_lt_mul_of_pos_right e1 hc
  have k2 : b.1 * c.2 * a.2 ≤ c.1 * b.2 * a.2 := Int.mul_le_mul_of_nonneg_right (by omega) (by omega)
  have k3 : a.1 * c.2 * b.2 < c.1 * a.2 * b.2 := by
    have q1 : a.1 * c.2 * b.2 = a.1 * b.2 * c.2 := by grind
    have q2 : c.1 * a.2 * b.2 = c.1 * b.2 * a.2 := by grind
    have q3 : b.1 * a.2 * c.2 = b.1 * c.2 * a.2 := by grind
    omega
  exact Int.lt_of_mul_lt_mul_right k3 (by omega)

def Frs (K : PySem.W.Frag) (H : Hp) (xs : List V) (fs : List QQ) (B : Nat) : Prop := xs.length = fs.length ∧ ∀ (i : Nat) x f, xs[i]? = some x → fs[i]? = some f → FrB K H x f.1 f.2 B
theorem Frs.same {K : PySem.W.Frag} {H H' : Hp} {xs : List V} {fs : List QQ} {B : Nat} (h : Frs K H xs fs B) (s : Same H H') : Frs K H' xs fs B := ⟨h.1, fun i x f a b => (h.2 i x f a b).same s⟩
theorem Frs.kp {K : PySem.W.Frag} {H H' : Hp} {r : Addr} {xs : List V} {fs : List QQ} {B : Nat} (h : Frs K H xs fs B) (R : Rg H r) (k : Kp r H H') : Frs K H' xs fs B := ⟨h.1, fun i x f a b => (h.2 i x f a b).kp R k⟩
theorem Frs.low {K : PySem.W.Frag} {H : Hp} {xs : List V} {fs : List QQ} {B : Nat} (h : Frs K H xs fs B) : ∀ f ∈ fs, Low f := fun f hf => by
  obtain ⟨i, hi, e⟩ := List.getElem_of_mem hf
  have hx : xs[i]? = some (xs[i]'(by rw [h.1]; exact hi)) := List.getElem?_eq_getElem _
  have z := h.2 i _ f hx (by rw [List.getElem?_eq_getElem hi, e])
  exact ⟨z.d0, z.g⟩
theorem Frs.at {K : PySem.W.Frag} {H : Hp} {xs : List V} {fs : List QQ} {B : Nat} (h : Frs K H xs fs B) {i : Nat} {x : V} (hx : xs[i]? = some x) : ∃ f, fs[i]? = some f ∧ FrB K H x f.1 f.2 B := by
  have hi : i < fs.length := by rw [← h.1]; exact (List.getElem?_eq_some_iff.mp hx).1
  exact ⟨fs[i], List.getElem?_eq_getElem hi, h.2 i x _ hx (List.getElem?_eq_getElem hi)⟩
def Sq (K : PySem.W.Frag) (H : Hp) (p : Addr) (xs : List V) : Prop := SqL K H p xs ∨ SqT K H p xs
theorem Sq.same {K : PySem.W.Frag} {H H' : Hp} {p : Addr} {xs : List V} (h : Sq K H p xs) (s : Same H H') : Sq K H' p xs := h.elim (fun z => .inl (s.seq z)) fun z => .inr (Same.T s z)
theorem FrB.up' {K : PySem.W.Frag} {H : Hp} {v : V} {n d : Int} {B C : Nat} (f : FrB K H v n d B) (h : B ≤ C) : FrB K H v n d C := ⟨f.fr, f.d0, f.g, Nat.lt_of_lt_of_le f.nB (Nat.pow_le_pow_right (by decide) h), Nat.lt_of_lt_of_le f.dB (Nat.pow_le_pow_right (by decide) h)⟩
theorem FrB.low {K : PySem.W.Frag} {H : Hp} {v : V} {f : QQ} {B : Nat} (h : FrB K H v f.1 f.2 B) : Low f := ⟨h.d0, h.g⟩
theorem FrB.add {K : PySem.W.Frag} {H : Hp} {v1 v2 : V} {a b : QQ} {A B : Nat} {p : Addr} (ha : FrB K H v1 a.1 a.2 A) (hb : FrB K H v2 b.1 b.2 B) : FrB K (upd H p (.tup [.int (radd a b).1, .int (radd a b).2])) (.ref p) (radd a b).1 (radd a b).2 (A + B + 1) := by
  have l := low_add ha.low hb.low
  have bd := add_bd ha.d0 hb.d0 ha.nB ha.dB hb.nB hb.dB
  exact ⟨Fr.new, l.1, l.2, bd.1, bd.2⟩
theorem mulW {a b : Int} {A : Nat} (ha : a.natAbs < 2 ^ A) (hb : b.natAbs < 2 ^ A) (h0 : 0 < A) (h1 : A ≤ 500000) : CMulW a b := wide_mul ha hb h0 h0 (by omega)
def spAdd (K : PySem.W.Frag) : Sp := fun vs H Q _ => ∃ (v1 v2 : V) (a b : QQ), vs = [v1, v2] ∧ FrB K H v1 a.1 a.2 3000 ∧ FrB K H v2 b.1 b.2 3000 ∧ ∀ p, H p = none → Q (.ref p) (upd H p (.tup [.int (radd a b).1, .int (radd a b).2]))
def spLess (K : PySem.W.Frag) : Sp := fun vs H Q _ => ∃ (v1 v2 : V) (a b : QQ), vs = [v1, v2] ∧ FrB K H v1 a.1 a.2 20000 ∧ FrB K H v2 b.1 b.2 20000 ∧ Q (.bl (rlt a b)) H
/-- the first place of the best by lt -/
def Fst (lt : QQ → QQ → Bool) (fs : List QQ) (j : Nat) : Prop := ∃ f, fs[j]? = some f ∧ (∀ (i : Nat) g, fs[i]? = some g → lt f g = false) ∧ ∀ (i : Nat) g, i < j → fs[i]? = some g → lt g f = true
abbrev FstMax (fs : List QQ) (j : Nat) : Prop := Fst rlt fs j
abbrev FstMin (fs : List QQ) (j : Nat) : Prop := Fst (fun a b => rlt b a) fs j
theorem rlt_asym {a b : QQ} (h : rlt a b = true) : rlt b a = false := by
  have e : a.1 * b.2 < b.1 * a.2 := of_decide_eq_true h
  exact decide_eq_false (by omega)
theorem rlt_le_lt {a b c : QQ} (ha : 0 < a.2) (hb : 0 < b.2) (hc : 0 < c.2) (h1 : rlt b a = false) (h2 : rlt b c = true) : rlt a c = true := by
  have e1 : ¬ b.1 * a.2 < a.1 * b.2 := of_decide_eq_false h1
  have e2 : b.1 * c.2 < c.1 * b.2 := of_decide_eq_true h2
  refine decide_eq_true ?_
  have k1 : b.1 * c.2 * a.2 < c.1 * b.2 * a.2 := Int.mul_lt_mul_of_pos_right e2 ha
  have k2 : a.1 * b.2 * c.2 ≤ b.1 * a.2 * c.2 := Int.mul_le_mul_of_nonneg_right (by omega) (by omega)
  have k3 : a.1 * c.2 * b.2 < c.1 * a.2 * b.2 := by
    have q1 : a.1 * c.2 * b.2 = a.1 * b.2 * c.2 := by grind
    have q2 : c.1 * a.2 * b.2 = c.1 * b.2 * a.2 := by grind
    have q3 : b.1 * a.2 * c.2 = b.1 * c.2 * a.2 := by grind
    omega
  exact Int.lt_of_mul_lt_mul_right k3 (by omega)
structure Ord (lt : QQ → QQ → Bool) : Prop where
  irr : ∀ a, lt a a = false
  lelt : ∀ a b c : QQ, 0 < a.2 → 0 < b.2 → 0 < c.2 → lt b a = false → lt b c = true → lt a c = true
  asym : ∀ a b, lt a b = true → lt b a = false
theorem ordMax : Ord rlt := ⟨fun _ => rlt_irr, fun _ _ _ ha hb hc h1 h2 => rlt_le_lt ha hb hc h1 h2, fun _ _ h => rlt_asym h⟩
theorem ordMin : Ord (fun a b => rlt b a) := ⟨fun _ => rlt_irr, fun _ _ _ ha hb hc h1 h2 => rlt_trans' hc hb ha h2 h1, fun _ _ h => rlt_asym h⟩
/-- between two turns: best so far among the first i -/
def Bst (lt : QQ → QQ → Bool) (fs : List QQ) (i j : Nat) : Prop := ∃ f, fs[j]? = some f ∧ (∀ (m : Nat) g, m < i → fs[m]? = some g → lt f g = false) ∧ ∀ (m : Nat) g, m < j → fs[m]? = some g → lt g f = true
theorem Bst.start {lt : QQ → QQ → Bool} {fs : List QQ} (h : 0 < fs.length) : Bst lt fs 0 0 := ⟨fs[0], List.getElem?_eq_getElem h, fun m g hm => absurd hm (by omega), fun m g hm => absurd hm (by omega)⟩
theorem Bst.keep {lt : QQ → QQ → Bool} {fs : List QQ} {i j : Nat} {f g : QQ} (b : Bst lt fs i j) (hf : fs[j]? = some f) (hg : fs[i]? = some g) (h : lt f g = false) : Bst lt fs (i + 1) j := by
  obtain ⟨f', e, k1, k2⟩ := b
  rw [hf] at e; cases e
  refine ⟨f, hf, fun m x hm hx => ?_, k2⟩
  by_cases z : m = i
  · subst z; rw [hg] at hx; cases hx; exact h
  · exact k1 m x (by omega) hx
theorem Bst.take {lt : QQ → QQ → Bool} {fs : List QQ} {i j : Nat} {f g : QQ} (O : Ord lt) (lo : ∀ f ∈ fs, Low f) (b : Bst lt fs i j) (hf : fs[j]? = some f) (hg : fs[i]? = some g) (h : lt f g = true) : Bst lt fs (i + 1) i := by
  obtain ⟨f', e, k1, k2⟩ := b
  rw [hf] at e; cases e
  have pf := (lo f (List.mem_of_getElem? hf)).1
  have pg := (lo g (List.mem_of_getElem? hg)).1
  have up : ∀ (m : Nat) x, m < i → fs[m]? = some x → lt x g = true := fun m x hm hx => O.lelt x f g (lo x (List.mem_of_getElem? hx)).1 pf pg (k1 m x hm hx) h
  refine ⟨g, hg, fun m x hm hx => ?_, up⟩
  by_cases z : m = i
  · subst z; rw [hg] at hx; cases hx; exact O.irr g
  · exact O.asym _ _ (up m x (by omega) hx)
theorem Bst.fst {lt : QQ → QQ → Bool} {fs : List QQ} {j : Nat} (b : Bst lt fs fs.length j) : Fst lt fs j := by
  obtain ⟨f, e, k1, k2⟩ := b
  exact ⟨f, e, fun m g hg => k1 m g (List.getElem?_eq_some_iff.mp hg).1 hg, k2⟩
theorem Bst.lt {lt : QQ → QQ → Bool} {fs : List QQ} {i j : Nat} (b : Bst lt fs i j) : j < fs.length := by
  obtain ⟨f, e, _⟩ := b
  exact (List.getElem?_eq_some_iff.mp e).1
theorem Frs.nil' {K : PySem.W.Frag} {H : Hp} {B : Nat} : Frs K H [] [] B := ⟨rfl, fun i x f h => by cases h⟩
theorem Frs.cons' {K : PySem.W.Frag} {H : Hp} {B : Nat} {x : V} {f : QQ} {xs : List V} {fs : List QQ} (h : FrB K H x f.1 f.2 B) (t : Frs K H xs fs B) : Frs K H (x :: xs) (f :: fs) B :=
  ⟨by rw [List.length_cons, List.length_cons, t.1], fun i y g a b => by
    cases i with
    | zero => cases a; cases b; exact h
    | succ i => exact t.2 i y g a b⟩
theorem Frs.uncons' {K : PySem.W.Frag} {H : Hp} {B : Nat} {x : V} {f : QQ} {xs : List V} {fs : List QQ} (t : Frs K H (x :: xs) (f :: fs) B) : FrB K H x f.1 f.2 B ∧ Frs K H xs fs B :=
  ⟨t.2 0 x f rfl rfl, by have := t.1; simpa using this, fun i y g a b => t.2 (i + 1) y g a b⟩
theorem Frs.app' {K : PySem.W.Frag} {H : Hp} {B : Nat} : ∀ {xs : List V} {fs : List QQ} {ys : List V} {gs : List QQ}, Frs K H xs fs B → Frs K H ys gs B → Frs K H (xs ++ ys) (fs ++ gs) B
  | [], [], _, _, _, b => b
  | [], _ :: _, _, _, a, _ => by have := a.1; cases this
  | _ :: _, [], _, _, a, _ => by have := a.1; cases this
  | x :: xs, f :: fs, ys, gs, a, b => Frs.cons' a.uncons'.1 (Frs.app' a.uncons'.2 b)
theorem FrB.put' {K : PySem.W.Frag} {H : Hp} {v : V} {n d : Int} {B : Nat} {D : Addr} {l l' : List V} (f : FrB K H v n d B) (hD : H D = some (.lst l)) : FrB K (upd H D (.lst l')) v n d B := by
  refine ⟨?_, f.d0, f.g, f.nB, f.dB⟩
  obtain ⟨p, rfl, h⟩ := f.fr
  refine ⟨p, rfl, ?_⟩
  rcases h with (h | ⟨o, h⟩) | h
  · exact .inl (.inl (by rw [upd_ne (ne_of h hD (fun z => by cases z))]; exact h))
  · exact .inl (.inr ⟨o, by rw [upd_ne (ne_of h hD (fun z => by cases z))]; exact h⟩)
  · exact .inr h
theorem Frs.put' {K : PySem.W.Frag} {H : Hp} {B : Nat} {D : Addr} {l l' : List V} {xs : List V} {fs : List QQ} (f : Frs K H xs fs B) (hD : H D = some (.lst l)) : Frs K (upd H D (.lst l')) xs fs B := ⟨f.1, fun i x g a b => (f.2 i x g a b).put' hD⟩
theorem Frs.one' {K : PySem.W.Frag} {H : Hp} {B : Nat} {x : V} {f : QQ} (h : FrB K H x f.1 f.2 B) : Frs K H [x] [f] B := Frs.cons' h Frs.nil'
def spSub (K : PySem.W.Frag) : Sp := fun vs H Q _ => ∃ (v1 v2 : V) (x y : QQ), vs = [v1, v2] ∧ FrB K H v1 x.1 x.2 3000 ∧ FrB K H v2 y.1 y.2 3000 ∧ ∀ r, H r = none → Q (.ref r) (upd H r (.tup [.int (red (x.1 * y.2 - y.1 * x.2) (x.2 * y.2)).1, .int (red (x.1 * y.2 - y.1 * x.2) (x.2 * y.2)).2]))
def spMul (K : PySem.W.Frag) : Sp := fun vs H Q _ => ∃ (v1 v2 : V) (x y : QQ), vs = [v1, v2] ∧ FrB K H v1 x.1 x.2 3000 ∧ FrB K H v2 y.1 y.2 3000 ∧ ∀ r, H r = none → Q (.ref r) (upd H r (.tup [.int (red (x.1 * y.1) (x.2 * y.2)).1, .int (red (x.1 * y.1) (x.2 * y.2)).2]))
def spDiv (K : PySem.W.Frag) : Sp := fun vs H Q _ => ∃ (v1 v2 : V) (x y : QQ), vs = [v1, v2] ∧ FrB K H v1 x.1 x.2 3000 ∧ FrB K H v2 y.1 y.2 3000 ∧ y.1 ≠ 0 ∧ ∀ r, H r = none → Q (.ref r) (upd H r (.tup [.int (red (x.1 * y.2) (x.2 * y.1)).1, .int (red (x.1 * y.2) (x.2 * y.1)).2]))
theorem ne_mul {i j : Int} (h : 0 < i) (k : j ≠ 0) : i * j ≠ 0 := fun z => by
  rcases Int.mul_eq_zero.mp z with z | z
  · omega
  · exact k z
/-! ### terms -/
inductive Kd where
  | delay (f : QQ) | max | min | median | mix (ws : List QQ)
inductive Tm where
  | ev (n : Str) : Tm
  | nd (k : Kd) (ts : List Tm) : Tm
def Tm.subs : Tm → List Tm
  | .ev _ => []
  | .nd _ ts => ts
mutual
def Tm.size : Tm → Nat
  | .ev _ => 1
  | .nd _ ts => 1 + Tm.sizes ts
def Tm.sizes : List Tm → Nat
  | [] => 0
  | t :: ts => t.size + Tm.sizes ts
end
mutual
def Tm.depth : Tm → Nat
  | .ev _ => 1
  | .nd _ ts => 1 + Tm.depths ts
def Tm.depths : List Tm → Nat
  | [] => 0
  | t :: ts => Nat.max t.depth (Tm.depths ts)
end
mutual
def Tm.flat : Tm → List Str
  | .ev s => [s]
  | .nd _ ts => Tm.flats ts
def Tm.flats : List Tm → List Str
  | [] => []
  | t :: ts => t.flat ++ Tm.flats ts
end
theorem Tm.size_eq (t : Tm) : t.size = 1 + Tm.sizes t.subs := by cases t <;> simp [Tm.size, Tm.subs, Tm.sizes]
theorem Tm.sizes_eq : ∀ ts : List Tm, Tm.sizes ts = (ts.map Tm.size).sum
  | [] => by simp [Tm.sizes]
  | t :: ts => by rw [Tm.sizes, Tm.sizes_eq ts, List.map_cons, List.sum_cons]
def All2 (R : V → Tm → Prop) (xs : List V) (ts : List Tm) : Prop := xs.length = ts.length ∧ ∀ (i : Nat) x t, xs[i]? = some x → ts[i]? = some t → R x t
theorem All2.mono {R S : V → Tm → Prop} {xs : List V} {ts : List Tm} (h : All2 R xs ts) (k : ∀ x t, R x t → S x t) : All2 S xs ts := ⟨h.1, fun i x t a b => k x t (h.2 i x t a b)⟩
theorem All2.nil {R : V → Tm → Prop} : All2 R [] [] := ⟨rfl, fun i x t h => by cases h⟩
theorem All2.snoc {R : V → Tm → Prop} {xs : List V} {ts : List Tm} {x : V} {t : Tm} (h : All2 R xs ts) (k : R x t) : All2 R (xs ++ [x]) (ts ++ [t]) := by
  refine ⟨by rw [List.length_append, List.length_append, h.1]; rfl, fun i y u a b => ?_⟩
  by_cases hi : i < xs.length
  · rw [List.getElem?_append_left hi] at a
    rw [List.getElem?_append_left (by rw [← h.1]; exact hi)] at b
    exact h.2 i y u a b
  · have e : i = xs.length := by
      have := (List.getElem?_eq_some_iff.mp a).1
      rw [List.length_append] at this
      have : i < xs.length + 1 := this
      omega
    subst e
    rw [List.getElem?_append_right (Nat.le_refl _), Nat.sub_self] at a
    rw [h.1, List.getElem?_append_right (Nat.le_refl _), Nat.sub_self] at b
    cases a; cases b
    exact k
theorem All2.one {R : V → Tm → Prop} {x : V} {t : Tm} (k : R x t) : All2 R [x] [t] := All2.nil.snoc k
theorem All2.at {R : V → Tm → Prop} {xs : List V} {ts : List Tm} (h : All2 R xs ts) {i : Nat} {x : V} (hx : xs[i]? = some x) : ∃ t, ts[i]? = some t ∧ R x t := by
  have l : i < ts.length := by rw [← h.1]; exact (List.getElem?_eq_some_iff.mp hx).1
  exact ⟨ts[i], List.getElem?_eq_getElem l, h.2 i x _ hx (List.getElem?_eq_getElem l)⟩
def kdS : Kd → Str
  | .delay _ => "delay" | .max => "max" | .min => "min" | .median => "median" | .mix _ => "mix"
/-- a tuple that stands for a term of the kind k over the values xs -/
def Node (K : PySem.W.Frag) (H : Hp) (v : V) : Kd → List V → Prop
  | .delay f, xs => ∃ p x fv, xs = [x] ∧ v = .ref p ∧ SqT K H p [.str "delay", x, fv] ∧ FrB K H fv f.1 f.2 40
  | .max, xs => ∃ p, v = .ref p ∧ SqT K H p (.str "max" :: xs)
  | .min, xs => ∃ p, v = .ref p ∧ SqT K H p (.str "min" :: xs)
  | .median, xs => ∃ p, v = .ref p ∧ SqT K H p (.str "median" :: xs)
  | .mix ws, xs => ∃ p ys, v = .ref p ∧ SqT K H p (.str "mix" :: ys) ∧ ys.length = xs.length ∧ ws.length = xs.length ∧ ∀ (i : Nat) y x f, ys[i]? = some y → xs[i]? = some x → ws[i]? = some f → ∃ q wv, y = .ref q ∧ SqT K H q [wv, x] ∧ FrB K H wv f.1 f.2 40
def TmAt (K : PySem.W.Frag) (H : Hp) : Nat → V → Tm → Prop
  | 0, _, _ => False
  | _ + 1, v, .ev s => ∃ p, v = .ref p ∧ SqT K H p [.str "event", .str s]
  | n + 1, v, .nd k ts => ∃ xs, Node K H v k xs ∧ All2 (TmAt K H n) xs ts
section
variable {K : PySem.W.Frag} {H H' : Hp}
theorem Node.imp (sT : ∀ p xs, SqT K H p xs → SqT K H' p xs) {v : V} {k : Kd} {xs : List V} (h : Node K H v k xs) : Node K H' v k xs := by
  have fb : ∀ {v n d B}, FrB K H v n d B → FrB K H' v n d B := fun f => ⟨by obtain ⟨p, e, z⟩ := f.fr; exact ⟨p, e, sT _ _ z⟩, f.d0, f.g, f.nB, f.dB⟩
  cases k with
  | delay f => obtain ⟨p, x, fv, e1, e2, h1, h2⟩ := h; exact ⟨p, x, fv, e1, e2, sT _ _ h1, fb h2⟩
  | max => obtain ⟨p, e, h1⟩ := h; exact ⟨p, e, sT _ _ h1⟩
  | min => obtain ⟨p, e, h1⟩ := h; exact ⟨p, e, sT _ _ h1⟩
  | median => obtain ⟨p, e, h1⟩ := h; exact ⟨p, e, sT _ _ h1⟩
  | mix ws =>
    obtain ⟨p, ys, e, h1, l1, l2, h2⟩ := h
    refine ⟨p, ys, e, sT _ _ h1, l1, l2, fun i y x f a b c => ?_⟩
    obtain ⟨q, wv, e', h3, h4⟩ := h2 i y x f a b c
    exact ⟨q, wv, e', sT _ _ h3, fb h4⟩
theorem TmAt.imp (sT : ∀ p xs, SqT K H p xs → SqT K H' p xs) : ∀ {n : Nat} {v : V} {t : Tm}, TmAt K H n v t → TmAt K H' n v t
  | 0, _, _, h => h
  | n + 1, v, .ev s, h => by obtain ⟨p, e, z⟩ := h; exact ⟨p, e, sT _ _ z⟩
  | n + 1, v, .nd k ts, h => by
    obtain ⟨xs, h1, h2⟩ := h
    exact ⟨xs, h1.imp sT, h2.mono fun x t z => TmAt.imp sT z⟩
theorem TmAt.same (s : Same H H') {n : Nat} {v : V} {t : Tm} (h : TmAt K H n v t) : TmAt K H' n v t := h.imp fun _ _ z => Same.T s z
theorem TmAt.kp {r : Addr} (R : Rg H r) (k : Kp r H H') {n : Nat} {v : V} {t : Tm} (h : TmAt K H n v t) : TmAt K H' n v t := h.imp fun _ _ z => RgT R k z
theorem TmAt.put {D : Addr} {l l' : List V} (hD : H D = some (.lst l)) {n : Nat} {v : V} {t : Tm} (h : TmAt K H n v t) : TmAt K (upd H D (.lst l')) n v t := h.imp fun p xs z => by
  rcases z with (z | ⟨o, z⟩) | z
  · exact .inl (.inl (by rw [upd_ne (ne_of z hD (fun y => by cases y))]; exact z))
  · exact .inl (.inr ⟨o, by rw [upd_ne (ne_of z hD (fun y => by cases y))]; exact z⟩)
  · exact .inr z
theorem TmAt.up : ∀ {n : Nat} {v : V} {t : Tm}, TmAt K H n v t → TmAt K H (n + 1) v t
  | 0, _, _, h => h.elim
  | n + 1, v, .ev s, h => h
  | n + 1, v, .nd k ts, h => by
    obtain ⟨xs, h1, h2⟩ := h
    exact ⟨xs, h1, h2.mono fun x t z => TmAt.up z⟩
theorem TmAt.le {n m : Nat} (l : n ≤ m) {v : V} {t : Tm} (h : TmAt K H n v t) : TmAt K H m v t := by
  induction l with
  | refl => exact h
  | step _ ih => exact ih.up
end
/-- what the law's terms have: names of the list, few operands, shares -/
def ShW (ws : List QQ) : Prop := ∃ is : List Int, (∀ i ∈ is, 1 ≤ i ∧ i ≤ 4) ∧ is.length ≤ 6 ∧ ws = is.map fun i => red i is.sum
def KdOk : Kd → Nat → Prop
  | .delay _, m => m = 1
  | .max, m => 1 ≤ m ∧ m ≤ 3
  | .min, m => 1 ≤ m ∧ m ≤ 3
  | .median, m => m = 3
  | .mix ws, m => 1 ≤ m ∧ m ≤ 3 ∧ ws.length = m ∧ ShW ws
def Good (ss : List Str) : Nat → Tm → Prop
  | 0, _ => False
  | _ + 1, .ev s => s ∈ ss
  | n + 1, .nd k ts => KdOk k ts.length ∧ ∀ t ∈ ts, Good ss n t
def szB : Nat → Nat
  | 0 => 0
  | n + 1 => 1 + 3 * szB n
theorem Good.up {ss : List Str} : ∀ {n : Nat} {t : Tm}, Good ss n t → Good ss (n + 1) t
  | 0, _, h => h.elim
  | n + 1, .ev s, h => h
  | n + 1, .nd k ts, h => ⟨h.1, fun t ht => (h.2 t ht).up⟩
theorem Good.le {ss : List Str} {n m : Nat} (l : n ≤ m) {t : Tm} (h : Good ss n t) : Good ss m t := by
  induction l with
  | refl => exact h
  | step _ ih => exact ih.up
theorem KdOk.three {k : Kd} {m : Nat} (h : KdOk k m) : m ≤ 3 := by
  cases k with
  | delay f => have : m = 1 := h; omega
  | max => exact h.2
  | min => exact h.2
  | median => exact Nat.le_of_eq h
  | mix ws => exact h.2.1
theorem sizes_le {B : Nat} : ∀ {ts : List Tm}, (∀ t ∈ ts, t.size ≤ B) → Tm.sizes ts ≤ ts.length * B
  | [], _ => by simp [Tm.sizes]
  | t :: ts, h => by
    rw [Tm.sizes, List.length_cons, Nat.add_mul, Nat.one_mul]
    have h1 := h t List.mem_cons_self
    have h2 := sizes_le (B := B) (ts := ts) fun u hu => h u (List.mem_cons_of_mem _ hu)
    omega
theorem Good.size {ss : List Str} : ∀ {n : Nat} {t : Tm}, Good ss n t → t.size ≤ szB n
  | 0, _, h => h.elim
  | n + 1, .ev s, _ => by simp [Tm.size, szB]
  | n + 1, .nd k ts, h => by
    have h1 := sizes_le (B := szB n) fun t ht => (h.2 t ht).size
    have h2 := Nat.mul_le_mul_right (szB n) h.1.three
    rw [Tm.size, szB]
    omega
theorem Tm.depth_eq (t : Tm) : t.depth = 1 + Tm.depths t.subs := by cases t <;> simp [Tm.depth, Tm.subs, Tm.depths]
theorem depths_ge : ∀ {ts : List Tm} {u : Tm}, u ∈ ts → u.depth ≤ Tm.depths ts
  | t :: ts, u, h => by
    rw [Tm.depths]
    rcases List.mem_cons.mp h with z | z
    · rw [z]; exact Nat.le_max_left _ _
    · exact Nat.le_trans (depths_ge z) (Nat.le_max_right _ _)
theorem depths_in : ∀ {ts : List Tm}, ts ≠ [] → ∃ u ∈ ts, Tm.depths ts = u.depth
  | [], h => absurd rfl h
  | t :: ts, _ => by
    rw [Tm.depths]
    by_cases q : ts = []
    · subst q
      exact ⟨t, List.mem_cons_self, by rw [Tm.depths]; exact Nat.max_eq_left (Nat.zero_le _)⟩
    · obtain ⟨u, hu, e⟩ := depths_in q
      by_cases c : Tm.depths ts ≤ t.depth
      · exact ⟨t, List.mem_cons_self, Nat.max_eq_left c⟩
      · exact ⟨u, List.mem_cons_of_mem _ hu, by rw [← e]; exact Nat.max_eq_right (by omega)⟩
theorem depths_max {ts : List Tm} {m : Int} (hm : m ∈ ts.map (fun u => (u.depth : Int))) (hk : ∀ k ∈ ts.map (fun u => (u.depth : Int)), k ≤ m) : (Tm.depths ts : Int) = m := by
  obtain ⟨u, hu, rfl⟩ := List.mem_map.mp hm
  have h1 := depths_ge hu
  obtain ⟨v, hv, e⟩ := depths_in (ts := ts) (fun z => by rw [z] at hu; cases hu)
  have h2 := hk _ (List.mem_map.mpr ⟨v, hv, rfl⟩)
  have h2' : (v.depth : Int) ≤ (u.depth : Int) := h2
  omega
def ArOk : Tm → Prop
  | .ev _ => True
  | .nd _ ts => 1 ≤ ts.length ∧ ts.length ≤ 60
theorem Good.ar {ss : List Str} {n : Nat} {t : Tm} (h : Good ss n t) : ArOk t := by
  cases n with
  | zero => exact h.elim
  | succ n =>
    cases t with
    | ev s => trivial
    | nd k ts =>
      have h3 := h.1.three
      refine ⟨?_, by omega⟩
      have hk := h.1
      cases k with
      | delay f => have : ts.length = 1 := hk; omega
      | max => exact hk.1
      | min => exact hk.1
      | median => have : ts.length = 3 := hk; omega
      | mix ws => exact hk.1
/-- the direct subterms, as a new list -/
def spSubs (K : PySem.W.Frag) : Sp := fun vs H Q _ => ∃ (v : V) (t : Tm) (n : Nat), vs = [v] ∧ TmAt K H (n + 1) v t ∧ ArOk t ∧ ∀ l H' xs, Same H H' → H l = none → H' l = some (.lst xs) → All2 (TmAt K H' n) xs t.subs → Q (.ref l) H'
theorem cut_one (x : V) (xs : List V) : cutV (x :: xs) (some 1) none = xs := by
  unfold cutV
  rw [show HT.sIx (x :: xs).length 0 (some 1) = min 1 (x :: xs).length from HT.sIx_nat (x :: xs).length 0 1, HT.sIx_none, List.length_cons, show min 1 (xs.length + 1) = 1 by omega]
  show List.take (xs.length + 1 - 1) xs = xs
  rw [Nat.add_sub_cancel, List.take_length]
theorem not_whole (x : V) (xs : List V) : ¬ (HT.sIx (x :: xs).length 0 (some 1) = 0 ∧ HT.sIx (x :: xs).length (x :: xs).length none = (x :: xs).length) := fun z => by
  have e : HT.sIx (x :: xs).length 0 (some 1) = min 1 (x :: xs).length := HT.sIx_nat (x :: xs).length 0 1
  rw [e, List.length_cons] at z
  have := z.1
  omega
theorem str_no {x y : Str} (h : decide (x = y) = false) : decide (V.str x = V.str y) = false := decide_eq_false fun z => of_decide_eq_false h (V.str.inj z)
/-- the pairs of a mix, walked: what is collected -/
theorem mix_at {K : PySem.W.Frag} {H : Hp} {ws : List QQ} {ys xs : List V} (l1 : ys.length = xs.length) (l2 : ws.length = xs.length) (h : ∀ (i : Nat) y x f, ys[i]? = some y → xs[i]? = some x → ws[i]? = some f → ∃ q wv, y = .ref q ∧ SqT K H q [wv, x] ∧ FrB K H wv f.1 f.2 40) {i : Nat} {y : V} (hy : ys[i]? = some y) :
    ∃ x q wv f, xs[i]? = some x ∧ ws[i]? = some f ∧ y = .ref q ∧ SqT K H q [wv, x] ∧ FrB K H wv f.1 f.2 40 := by
  have hi : i < ys.length := (List.getElem?_eq_some_iff.mp hy).1
  have a : xs[i]? = some (xs[i]'(by omega)) := List.getElem?_eq_getElem _
  have b : ws[i]? = some (ws[i]'(by omega)) := List.getElem?_eq_getElem _
  obtain ⟨q, wv, e, h1, h2⟩ := h i y _ _ hy a b
  exact ⟨_, q, wv, _, a, b, e, h1, h2⟩
def ArN : Nat → Tm → Prop
  | 0, _ => False
  | _ + 1, .ev _ => True
  | n + 1, .nd _ ts => (1 ≤ ts.length ∧ ts.length ≤ 60) ∧ ∀ t ∈ ts, ArN n t
theorem Good.arN {ss : List Str} : ∀ {n : Nat} {t : Tm}, Good ss n t → ArN n t
  | 0, _, h => h
  | n + 1, .ev s, h => trivial
  | n + 1, .nd k ts, h => ⟨Good.ar (n := n + 1) (t := .nd k ts) h, fun t ht => (h.2 t ht).arN⟩
theorem ArN.ok {n : Nat} {t : Tm} (h : ArN n t) : ArOk t := by
  cases n with
  | zero => exact h.elim
  | succ n => cases t with
    | ev s => trivial
    | nd k ts => exact h.1
theorem ArN.sub {n : Nat} {t u : Tm} (h : ArN (n + 1) t) (hu : u ∈ t.subs) : ArN n u := by
  cases t with
  | ev s => cases hu
  | nd k ts => exact h.2 u hu
theorem ArN.len {n : Nat} {t : Tm} (h : ArN n t) : t.subs.length ≤ 60 := by
  cases n with
  | zero => exact h.elim
  | succ n => cases t with
    | ev s => exact Nat.zero_le _
    | nd k ts => exact h.1.2
def spSize (K : PySem.W.Frag) : Nat → Sp
  | 0 => fun _ _ _ _ => False
  | n + 1 => fun vs H Q _ => ∃ (v : V) (t : Tm), vs = [v] ∧ TmAt K H (n + 1) v t ∧ ArN (n + 1) t ∧ ∀ H', Same H H' → Q (.int (t.size : Nat)) H'
def spDepth (K : PySem.W.Frag) : Nat → Sp
  | 0 => fun _ _ _ _ => False
  | n + 1 => fun vs H Q _ => ∃ (v : V) (t : Tm), vs = [v] ∧ TmAt K H (n + 1) v t ∧ ArN (n + 1) t ∧ ∀ H', Same H H' → Q (.int (t.depth : Nat)) H'
/-! ### names in order of first occurrence -/
def addS (acc : List Str) (s : Str) : List Str := if s ∈ acc then acc else acc ++ [s]
def ded (l : List Str) : List Str := l.foldl addS []
theorem add_mem {acc : List Str} {s x : Str} : x ∈ addS acc s ↔ x ∈ acc ∨ x = s := by
  unfold addS
  by_cases h : s ∈ acc
  · rw [if_pos h]
    exact ⟨.inl, fun z => z.elim id fun e => by rw [e]; exact h⟩
  · rw [if_neg h, List.mem_append, List.mem_singleton]
theorem fold_mem : ∀ {l acc : List Str} {x : Str}, x ∈ l.foldl addS acc ↔ x ∈ acc ∨ x ∈ l
  | [], acc, x => by simp
  | s :: l, acc, x => by
    rw [List.foldl_cons, fold_mem (l := l), add_mem, List.mem_cons]
    constructor
    · rintro ((h | h) | h)
      · exact .inl h
      · exact .inr (.inl h)
      · exact .inr (.inr h)
    · rintro (h | h | h)
      · exact .inl (.inl h)
      · exact .inl (.inr h)
      · exact .inr h
theorem add_old {acc : List Str} {s : Str} (h : s ∈ acc) : addS acc s = acc := if_pos h
theorem add_new {acc : List Str} {s : Str} (h : s ∉ acc) : addS acc s = acc ++ [s] := if_neg h
/-- folding the first occurrences in is folding all in -/
theorem fold_ded : ∀ (l m acc : List Str), (l.foldl addS m).foldl addS acc = l.foldl addS (m.foldl addS acc)
  | [], _, _ => rfl
  | s :: l, m, acc => by
    rw [List.foldl_cons, List.foldl_cons, fold_ded l (addS m s) acc]
    congr 1
    by_cases h : s ∈ m
    · rw [add_old h, add_old (fold_mem.mpr (.inr h))]
    · rw [add_new h, List.foldl_append]
      rfl
theorem ded_into (l acc : List Str) : (ded l).foldl addS acc = l.foldl addS acc := fold_ded l [] acc
theorem in_strs (s : Str) (acc : List Str) : inV (.str s) (acc.map V.str) = decide (s ∈ acc) := by
  unfold inV
  rw [List.any_map]
  by_cases h : s ∈ acc
  · rw [decide_eq_true h]
    exact List.any_eq_true.mpr ⟨s, h, by show (s == s) = true; simp⟩
  · rw [decide_eq_false h]
    refine Bool.eq_false_iff.mpr fun z => ?_
    obtain ⟨y, hy, e⟩ := List.any_eq_true.mp z
    have e' : (y == s) = true := e
    rw [beq_iff_eq] at e'
    exact h (e' ▸ hy)
theorem flat_strs (l : List Str) : (l.map V.str).all flatV = true := by
  rw [List.all_map]
  exact List.all_eq_true.mpr fun _ _ => rfl
theorem flats_take {ts : List Tm} {i : Nat} {u : Tm} (h : ts[i]? = some u) : Tm.flats (ts.take (i + 1)) = Tm.flats (ts.take i) ++ u.flat := by
  have app : ∀ a b : List Tm, Tm.flats (a ++ b) = Tm.flats a ++ Tm.flats b := by
    intro a b
    induction a with
    | nil => rfl
    | cons x a ih => rw [List.cons_append, Tm.flats, Tm.flats, ih, List.append_assoc]
  rw [List.take_add_one, h, app]
  show _ ++ Tm.flats [u] = _
  rw [Tm.flats, Tm.flats, List.append_nil]
theorem ded_app (a b : List Str) : ded (a ++ b) = b.foldl addS (ded a) := List.foldl_append ..
theorem ded_len : ∀ (l acc : List Str), (l.foldl addS acc).length ≤ acc.length + l.length
  | [], acc => Nat.le_refl _
  | s :: l, acc => by
    have h := ded_len l (addS acc s)
    have h2 : (addS acc s).length ≤ acc.length + 1 := by
      unfold addS
      split
      · omega
      · rw [List.length_append]; exact Nat.le_refl _
    rw [List.foldl_cons, List.length_cons]
    omega
def spNames (K : PySem.W.Frag) : Nat → Sp
  | 0 => fun _ _ _ _ => False
  | n + 1 => fun vs H Q _ => ∃ (v : V) (t : Tm), vs = [v] ∧ TmAt K H (n + 1) v t ∧ ArN (n + 1) t ∧ t.flat.length ≤ 1000 ∧ ∀ l H', Same H H' → H l = none → H' l = some (.lst ((ded t.flat).map V.str)) → Q (.ref l) H'
mutual
theorem flat_size : ∀ t : Tm, t.flat.length ≤ t.size
  | .ev s => by rw [Tm.flat, Tm.size]; exact Nat.le_refl _
  | .nd k ts => by
    rw [Tm.flat, Tm.size]
    have := flats_size ts
    omega
theorem flats_size : ∀ ts : List Tm, (Tm.flats ts).length ≤ Tm.sizes ts
  | [] => by rw [Tm.flats, Tm.sizes]; exact Nat.le_refl _
  | t :: ts => by
    rw [Tm.flats, Tm.sizes, List.length_append]
    have := flat_size t
    have := flats_size ts
    omega
end
/-! ### rationals -/
def toR (f : QQ) : Rat := Rat.divInt f.1 f.2
def ofR (q : Rat) : QQ := (q.num, (q.den : Int))
theorem low_ofR (q : Rat) : Low (ofR q) := by
  refine ⟨?_, ?_⟩
  · have := q.den_pos
    show (0 : Int) < (q.den : Int)
    omega
  · show Int.gcd q.num (q.den : Int) = 1
    have := q.reduced
    rw [Int.gcd_eq_natAbs_gcd_natAbs, Int.natAbs_natCast]
    exact this
theorem toR_ofR (q : Rat) : toR (ofR q) = q := Rat.num_divInt_den q
theorem red_R {n d : Int} (hd : d ≠ 0) : red n d = ofR (Rat.divInt n d) := by
  refine red_unique hd (low_ofR _).1 (low_ofR _).2 ?_
  show (Rat.divInt n d).num * d = n * ((Rat.divInt n d).den : Int)
  have h := Rat.num_divInt_den (Rat.divInt n d)
  have hz : ((Rat.divInt n d).den : Int) ≠ 0 := by have := (Rat.divInt n d).den_pos; omega
  exact (Rat.divInt_eq_divInt_iff hz hd).mp h
theorem ofR_toR {f : QQ} (h : Low f) : ofR (toR f) = f := by
  have e := red_R (n := f.1) (d := f.2) (by have := h.1; omega)
  rw [red_self h.1 h.2] at e
  exact e.symm
theorem den_ne (q : Rat) : (q.den : Int) ≠ 0 := by have := q.den_pos; omega
theorem radd_R (x y : Rat) : radd (ofR x) (ofR y) = ofR (x + y) := by
  show red (x.num * y.den + y.num * x.den) ((x.den : Int) * y.den) = _
  rw [red_R (Int.mul_ne_zero (den_ne x) (den_ne y)), ← Rat.divInt_add_divInt _ _ (den_ne x) (den_ne y), Rat.num_divInt_den, Rat.num_divInt_den]
theorem rsub_R (x y : Rat) : red (x.num * y.den - y.num * x.den) ((x.den : Int) * y.den) = ofR (x - y) := by
  rw [red_R (Int.mul_ne_zero (den_ne x) (den_ne y)), ← Rat.divInt_sub_divInt _ _ (den_ne x) (den_ne y), Rat.num_divInt_den, Rat.num_divInt_den]
theorem rmul_R (x y : Rat) : red (x.num * y.num) ((x.den : Int) * y.den) = ofR (x * y) := by
  rw [red_R (Int.mul_ne_zero (den_ne x) (den_ne y)), ← Rat.divInt_mul_divInt, Rat.num_divInt_den, Rat.num_divInt_den]
theorem rlt_R (x y : Rat) : rlt (ofR x) (ofR y) = decide (x < y) := by
  unfold rlt
  exact decide_eq_decide.mpr (Rat.lt_iff x y).symm
/-- the rational q, as a tuple, below 2 ^ B -/
def FR (K : PySem.W.Frag) (H : Hp) (v : V) (q : Rat) (B : Nat) : Prop := FrB K H v (ofR q).1 (ofR q).2 B
theorem FR.of {K : PySem.W.Frag} {H : Hp} {v : V} {f : QQ} {B : Nat} (h : FrB K H v f.1 f.2 B) : FR K H v (toR f) B := by
  have e := ofR_toR (f := f) ⟨h.d0, h.g⟩
  unfold FR
  rw [e]
  exact h
theorem FR.of' {K : PySem.W.Frag} {H : Hp} {v : V} {n d : Int} {B : Nat} (h : FrB K H v n d B) : FR K H v (toR (n, d)) B := FR.of (f := (n, d)) h
def Bt (q : Rat) (B : Nat) : Prop := (ofR q).1.natAbs < 2 ^ B ∧ (ofR q).2.natAbs < 2 ^ B
theorem FR.bt {K : PySem.W.Frag} {H : Hp} {v : V} {q : Rat} {B : Nat} (h : FR K H v q B) : Bt q B := ⟨h.nB, h.dB⟩
theorem Bt.up {q : Rat} {B C : Nat} (h : Bt q B) (l : B ≤ C) : Bt q C := ⟨Nat.lt_of_lt_of_le h.1 (Nat.pow_le_pow_right (by decide) l), Nat.lt_of_lt_of_le h.2 (Nat.pow_le_pow_right (by decide) l)⟩
theorem FR.mk {K : PySem.W.Frag} {H : Hp} {v : V} {q : Rat} {B : Nat} (f : Fr K H v (ofR q).1 (ofR q).2) (b : Bt q B) : FR K H v q B := ⟨f, (low_ofR q).1, (low_ofR q).2, b.1, b.2⟩
theorem FR.new {K : PySem.W.Frag} {H : Hp} {p : Addr} {q : Rat} {B : Nat} (b : Bt q B) : FR K (upd H p (.tup [.int (ofR q).1, .int (ofR q).2])) (.ref p) q B := FR.mk Fr.new b
theorem Bt.red {n d : Int} {B : Nat} (hd : d ≠ 0) (h1 : n.natAbs < 2 ^ B) (h2 : d.natAbs < 2 ^ B) : Bt (Rat.divInt n d) B := by
  have e := red_R (n := n) hd
  refine ⟨?_, ?_⟩
  · rw [← e]; exact Nat.lt_of_le_of_lt (red_le1 hd) h1
  · rw [← e]; exact Nat.lt_of_le_of_lt (red_le2 hd) h2
theorem Bt.add {x y : Rat} {A B : Nat} (hx : Bt x A) (hy : Bt y B) : Bt (x + y) (A + B + 1) := by
  have e : x + y = Rat.divInt (x.num * y.den + y.num * x.den) ((x.den : Int) * y.den) := by rw [← Rat.divInt_add_divInt _ _ (den_ne x) (den_ne y), Rat.num_divInt_den, Rat.num_divInt_den]
  rw [e]
  have h1 : x.num.natAbs < 2 ^ A := hx.1
  have h2 : (x.den : Int).natAbs < 2 ^ A := hx.2
  have h3 : y.num.natAbs < 2 ^ B := hy.1
  have h4 : (y.den : Int).natAbs < 2 ^ B := hy.2
  have m : ∀ {a b : Nat}, a < 2 ^ A → b < 2 ^ B → a * b < 2 ^ (A + B) := fun ha hb => by rw [Nat.pow_add]; exact Nat.mul_lt_mul'' ha hb
  refine Bt.red (Int.mul_ne_zero (den_ne x) (den_ne y)) ?_ ?_
  · have k1 : (x.num * (y.den : Int)).natAbs < 2 ^ (A + B) := by rw [Int.natAbs_mul]; exact m h1 h4
    have k2 : (y.num * (x.den : Int)).natAbs < 2 ^ (A + B) := by rw [Int.natAbs_mul, Nat.mul_comm]; exact m h2 h3
    rw [Nat.pow_succ]
    omega
  · have k : ((x.den : Int) * (y.den : Int)).natAbs < 2 ^ (A + B) := by rw [Int.natAbs_mul]; exact m h2 h4
    rw [Nat.pow_succ]
    omega
theorem Bt.mul {x y : Rat} {A B : Nat} (hx : Bt x A) (hy : Bt y B) : Bt (x * y) (A + B) := by
  have e : x * y = Rat.divInt (x.num * y.num) ((x.den : Int) * y.den) := by rw [← Rat.divInt_mul_divInt, Rat.num_divInt_den, Rat.num_divInt_den]
  rw [e]
  have m : ∀ {a b : Nat}, a < 2 ^ A → b < 2 ^ B → a * b < 2 ^ (A + B) := fun ha hb => by rw [Nat.pow_add]; exact Nat.mul_lt_mul'' ha hb
  refine Bt.red (Int.mul_ne_zero (den_ne x) (den_ne y)) ?_ ?_
  · rw [Int.natAbs_mul]; exact m hx.1 hy.1
  · rw [Int.natAbs_mul]; exact m hx.2 hy.2
theorem Bt.neg {x : Rat} {A : Nat} (hx : Bt x A) : Bt (-x) A := by
  refine ⟨?_, ?_⟩
  · show ((-x).num).natAbs < 2 ^ A
    rw [Rat.neg_num, Int.natAbs_neg]; exact hx.1
  · show ((-x).den : Int).natAbs < 2 ^ A
    rw [Rat.neg_den]; exact hx.2
theorem Bt.sub {x y : Rat} {A B : Nat} (hx : Bt x A) (hy : Bt y B) : Bt (x - y) (A + B + 1) := by
  rw [Rat.sub_eq_add_neg]
  exact hx.add hy.neg
theorem bt0 {B : Nat} : Bt 0 (B + 1) := by
  have : (2 : Nat) ≤ 2 ^ (B + 1) := Nat.le_trans (by decide) (Nat.pow_le_pow_right (by decide) (show 1 ≤ B + 1 by omega))
  exact ⟨by show (0 : Nat) < _; omega, by show (1 : Nat) < _; omega⟩
/-- what is called with a rational -/
theorem FR.up {K : PySem.W.Frag} {H : Hp} {v : V} {q : Rat} {B C : Nat} (f : FR K H v q B) (h : B ≤ C) : FR K H v q C := FR.mk f.fr (f.bt.up h)
theorem FR.same {K : PySem.W.Frag} {H H' : Hp} {v : V} {q : Rat} {B : Nat} (f : FR K H v q B) (k : Same H H') : FR K H' v q B := FrB.same f k
theorem FR.kp {K : PySem.W.Frag} {H H' : Hp} {r : Addr} {v : V} {q : Rat} {B : Nat} (f : FR K H v q B) (R : Rg H r) (k : Kp r H H') : FR K H' v q B := FrB.kp f R k
theorem FR.put {K : PySem.W.Frag} {H : Hp} {v : V} {q : Rat} {B : Nat} {D : Addr} {l l' : List V} (f : FR K H v q B) (hD : H D = some (.lst l)) : FR K (upd H D (.lst l')) v q B := FrB.put' f hD
/-- a list of rationals -/
def FRs (K : PySem.W.Frag) (H : Hp) (xs : List V) (qs : List Rat) (B : Nat) : Prop := Frs K H xs (qs.map ofR) B
theorem FRs.len {K : PySem.W.Frag} {H : Hp} {xs : List V} {qs : List Rat} {B : Nat} (h : FRs K H xs qs B) : xs.length = qs.length := by
  have := h.1
  rw [List.length_map] at this
  exact this
theorem FRs.nil {K : PySem.W.Frag} {H : Hp} {B : Nat} : FRs K H [] [] B := Frs.nil'
theorem FRs.cons {K : PySem.W.Frag} {H : Hp} {x : V} {q : Rat} {xs : List V} {qs : List Rat} {B : Nat} (h : FR K H x q B) (t : FRs K H xs qs B) : FRs K H (x :: xs) (q :: qs) B := Frs.cons' (f := ofR q) h t
theorem FRs.at {K : PySem.W.Frag} {H : Hp} {xs : List V} {qs : List Rat} {B : Nat} (h : FRs K H xs qs B) {i : Nat} {x : V} {q : Rat} (hx : xs[i]? = some x) (hq : qs[i]? = some q) : FR K H x q B := h.2 i x (ofR q) hx (by rw [List.getElem?_map, hq]; rfl)
theorem FRs.app {K : PySem.W.Frag} {H : Hp} {xs ys : List V} {qs rs : List Rat} {B : Nat} (a : FRs K H xs qs B) (b : FRs K H ys rs B) : FRs K H (xs ++ ys) (qs ++ rs) B := by
  unfold FRs
  rw [List.map_append]
  exact Frs.app' a b
theorem FRs.snoc {K : PySem.W.Frag} {H : Hp} {xs : List V} {qs : List Rat} {x : V} {q : Rat} {B : Nat} (a : FRs K H xs qs B) (h : FR K H x q B) : FRs K H (xs ++ [x]) (qs ++ [q]) B := a.app (FRs.cons h FRs.nil)
theorem FRs.mono {K : PySem.W.Frag} {H H' : Hp} {xs : List V} {qs : List Rat} {B C : Nat} (a : FRs K H xs qs B) (h : ∀ v q, FR K H v q B → FR K H' v q C) : FRs K H' xs qs C := ⟨a.1, fun i x f hx hf => by
  rw [List.getElem?_map] at hf
  cases e : qs[i]? with
  | none => rw [e] at hf; cases hf
  | some q => rw [e] at hf; cases hf; exact h x q (a.at hx e)⟩
theorem FRs.get {K : PySem.W.Frag} {H : Hp} {xs : List V} {qs : List Rat} {B : Nat} (h : FRs K H xs qs B) {i : Nat} {x : V} (hx : xs[i]? = some x) : ∃ q, qs[i]? = some q ∧ FR K H x q B := by
  have l : i < qs.length := by rw [← h.len]; exact (List.getElem?_eq_some_iff.mp hx).1
  exact ⟨qs[i], List.getElem?_eq_getElem l, h.at hx (List.getElem?_eq_getElem l)⟩
/-! ### the value of a term -/
def lmax : List Rat → Rat
  | [] => 0
  | [x] => x
  | x :: xs => max x (lmax xs)
def lmin : List Rat → Rat
  | [] => 0
  | [x] => x
  | x :: xs => min x (lmin xs)
/-- the second largest of three -/
def med3 (x y z : Rat) : Rat := max (min x y) (min (max x y) z)
def lmed : List Rat → Rat
  | [x, y, z] => med3 x y z
  | _ => 0
def lmix : List Rat → List Rat → Rat
  | w :: ws, x :: xs => w * x + lmix ws xs
  | _, _ => 0
def Kd.comb : Kd → List Rat → Rat
  | .delay f, xs => lmax xs + toR f
  | .max, xs => lmax xs
  | .min, xs => lmin xs
  | .median, xs => lmed xs
  | .mix ws, xs => lmix (ws.map toR) xs
mutual
def Tm.val (ρ : Str → Rat) : Tm → Rat
  | .ev s => ρ s
  | .nd k ts => k.comb (Tm.vals ρ ts)
def Tm.vals (ρ : Str → Rat) : List Tm → List Rat
  | [] => []
  | t :: ts => t.val ρ :: Tm.vals ρ ts
end
theorem vals_map (ρ : Str → Rat) : ∀ ts : List Tm, Tm.vals ρ ts = ts.map (Tm.val ρ)
  | [] => by rw [Tm.vals]; rfl
  | t :: ts => by rw [Tm.vals, vals_map ρ ts]; rfl
/-! ### order, shift -/
def Le2 (xs ys : List Rat) : Prop := xs.length = ys.length ∧ ∀ (i : Nat) x y, xs[i]? = some x → ys[i]? = some y → x ≤ y
theorem Le2.uncons {x y : Rat} {xs ys : List Rat} (h : Le2 (x :: xs) (y :: ys)) : x ≤ y ∧ Le2 xs ys := ⟨h.2 0 x y rfl rfl, by have := h.1; simpa using this, fun i a b ha hb => h.2 (i + 1) a b ha hb⟩
theorem lmax_mono : ∀ {xs ys : List Rat}, Le2 xs ys → lmax xs ≤ lmax ys
  | [], [], _ => Rat.le_refl
  | [], _ :: _, h => by have := h.1; cases this
  | _ :: _, [], h => by have := h.1; cases this
  | [x], [y], h => h.uncons.1
  | [x], _ :: _ :: _, h => by have := h.1; cases this
  | _ :: _ :: _, [y], h => by have := h.1; cases this
  | x :: a :: xs, y :: b :: ys, h => by
    have i := lmax_mono h.uncons.2
    have j := h.uncons.1
    show max x (lmax (a :: xs)) ≤ max y (lmax (b :: ys))
    generalize lmax (a :: xs) = u at *
    generalize lmax (b :: ys) = v at *
    rw [Rat.max_def, Rat.max_def]
    grind
theorem lmin_mono : ∀ {xs ys : List Rat}, Le2 xs ys → lmin xs ≤ lmin ys
  | [], [], _ => Rat.le_refl
  | [], _ :: _, h => by have := h.1; cases this
  | _ :: _, [], h => by have := h.1; cases this
  | [x], [y], h => h.uncons.1
  | [x], _ :: _ :: _, h => by have := h.1; cases this
  | _ :: _ :: _, [y], h => by have := h.1; cases this
  | x :: a :: xs, y :: b :: ys, h => by
    have i := lmin_mono h.uncons.2
    have j := h.uncons.1
    show min x (lmin (a :: xs)) ≤ min y (lmin (b :: ys))
    generalize lmin (a :: xs) = u at *
    generalize lmin (b :: ys) = v at *
    rw [Rat.min_def, Rat.min_def]
    grind
theorem med3_mono {x y z x' y' z' : Rat} (h1 : x ≤ x') (h2 : y ≤ y') (h3 : z ≤ z') : med3 x y z ≤ med3 x' y' z' := by
  unfold med3
  simp only [Rat.max_def, Rat.min_def]
  grind
theorem lmed_mono : ∀ {xs ys : List Rat}, Le2 xs ys → lmed xs ≤ lmed ys := by
  intro xs ys h
  unfold lmed
  split
  · rename_i x y z
    match ys, h with
    | [x', y', z'], h => exact med3_mono h.uncons.1 h.uncons.2.uncons.1 h.uncons.2.uncons.2.uncons.1
    | [], h => have := h.1; cases this
    | [_], h => have := h.1; cases this
    | [_, _], h => have := h.1; cases this
    | _ :: _ :: _ :: _ :: _, h => have := h.1; cases this
  · rename_i ne
    split
    · rename_i x y z
      match xs, h, ne with
      | [a, b, c], _, ne => exact absurd rfl (ne a b c)
      | [], h, _ => have := h.1; cases this
      | [_], h, _ => have := h.1; cases this
      | [_, _], h, _ => have := h.1; cases this
      | _ :: _ :: _ :: _ :: _, h, _ => have := h.1; cases this
    · exact Rat.le_refl
theorem lmix_mono : ∀ {ws xs ys : List Rat}, (∀ w ∈ ws, 0 ≤ w) → Le2 xs ys → lmix ws xs ≤ lmix ws ys
  | [], xs, ys, _, _ => by cases xs <;> cases ys <;> exact Rat.le_refl
  | w :: ws, [], [], _, _ => Rat.le_refl
  | w :: ws, [], _ :: _, _, h => by have := h.1; cases this
  | w :: ws, _ :: _, [], _, h => by have := h.1; cases this
  | w :: ws, x :: xs, y :: ys, hw, h => by
    have i := lmix_mono (fun v hv => hw v (List.mem_cons_of_mem _ hv)) h.uncons.2
    have j := Rat.mul_le_mul_of_nonneg_left h.uncons.1 (hw w List.mem_cons_self)
    show w * x + lmix ws xs ≤ w * y + lmix ws ys
    grind
theorem lmax_shift (c : Rat) : ∀ {xs : List Rat}, xs ≠ [] → lmax (xs.map (· + c)) = lmax xs + c
  | [], h => absurd rfl h
  | [x], _ => rfl
  | x :: a :: xs, _ => by
    have i := lmax_shift c (xs := a :: xs) (by simp)
    show max (x + c) (lmax ((a :: xs).map (· + c))) = max x (lmax (a :: xs)) + c
    rw [i]
    generalize lmax (a :: xs) = u
    simp only [Rat.max_def]
    grind
theorem lmin_shift (c : Rat) : ∀ {xs : List Rat}, xs ≠ [] → lmin (xs.map (· + c)) = lmin xs + c
  | [], h => absurd rfl h
  | [x], _ => rfl
  | x :: a :: xs, _ => by
    have i := lmin_shift c (xs := a :: xs) (by simp)
    show min (x + c) (lmin ((a :: xs).map (· + c))) = min x (lmin (a :: xs)) + c
    rw [i]
    generalize lmin (a :: xs) = u
    simp only [Rat.min_def]
    grind
theorem med3_shift (c x y z : Rat) : med3 (x + c) (y + c) (z + c) = med3 x y z + c := by
  unfold med3
  simp only [Rat.max_def, Rat.min_def]
  grind
theorem lmix_shift (c : Rat) : ∀ {ws xs : List Rat}, ws.length = xs.length → lmix ws (xs.map (· + c)) = lmix ws xs + ws.sum * c
  | [], [], _ => by show (0 : Rat) = 0 + (0 : Rat) * c; grind
  | [], _ :: _, h => by cases h
  | _ :: _, [], h => by cases h
  | w :: ws, x :: xs, h => by
    have i := lmix_shift c (ws := ws) (xs := xs) (by simpa using h)
    show w * (x + c) + lmix ws (xs.map (· + c)) = w * x + lmix ws xs + (w :: ws).sum * c
    rw [i, List.sum_cons]
    grind
/-! ### promises over rationals -/
def spAddR (K : PySem.W.Frag) : Sp := fun vs H Q _ => ∃ (v1 v2 : V) (x y : Rat), vs = [v1, v2] ∧ FR K H v1 x 3900 ∧ FR K H v2 y 3900 ∧ ∀ p, H p = none → Q (.ref p) (upd H p (.tup [.int (ofR (x + y)).1, .int (ofR (x + y)).2]))
def spSubR (K : PySem.W.Frag) : Sp := fun vs H Q _ => ∃ (v1 v2 : V) (x y : Rat), vs = [v1, v2] ∧ FR K H v1 x 3900 ∧ FR K H v2 y 3900 ∧ ∀ p, H p = none → Q (.ref p) (upd H p (.tup [.int (ofR (x - y)).1, .int (ofR (x - y)).2]))
def spMulR (K : PySem.W.Frag) : Sp := fun vs H Q _ => ∃ (v1 v2 : V) (x y : Rat), vs = [v1, v2] ∧ FR K H v1 x 3900 ∧ FR K H v2 y 3900 ∧ ∀ p, H p = none → Q (.ref p) (upd H p (.tup [.int (ofR (x * y)).1, .int (ofR (x * y)).2]))
theorem lmax_eq : ∀ {qs : List Rat} {j : Nat} {q : Rat}, qs[j]? = some q → (∀ (i : Nat) g, qs[i]? = some g → g ≤ q) → lmax qs = q
  | [], j, q, h, _ => by cases h
  | [x], j, q, h, k => by
    cases j with
    | zero => cases h; rfl
    | succ j => cases h
  | x :: y :: qs, j, q, h, k => by
    show max x (lmax (y :: qs)) = q
    have hx := k 0 x rfl
    cases j with
    | zero =>
      cases h
      have up : ∀ {l : List Rat}, l ≠ [] → (∀ (i : Nat) g, l[i]? = some g → g ≤ x) → lmax l ≤ x := by
        intro l
        induction l with
        | nil => intro h; exact absurd rfl h
        | cons a l ih =>
          intro _ h
          cases l with
          | nil => exact h 0 a rfl
          | cons b l =>
            show max a (lmax (b :: l)) ≤ x
            have h1 := h 0 a rfl
            have h2 := ih (by simp) fun i g hg => h (i + 1) g hg
            rw [Rat.max_def]
            split <;> assumption
      have h2 := up (l := y :: qs) (by simp) fun i g hg => k (i + 1) g hg
      rw [Rat.max_def]
      grind
    | succ j =>
      rw [lmax_eq (qs := y :: qs) (j := j) h fun i g hg => k (i + 1) g hg, Rat.max_def]
      grind
theorem lmin_eq : ∀ {qs : List Rat} {j : Nat} {q : Rat}, qs[j]? = some q → (∀ (i : Nat) g, qs[i]? = some g → q ≤ g) → lmin qs = q
  | [], j, q, h, _ => by cases h
  | [x], j, q, h, k => by
    cases j with
    | zero => cases h; rfl
    | succ j => cases h
  | x :: y :: qs, j, q, h, k => by
    show min x (lmin (y :: qs)) = q
    have hx := k 0 x rfl
    cases j with
    | zero =>
      cases h
      have up : ∀ {l : List Rat}, l ≠ [] → (∀ (i : Nat) g, l[i]? = some g → x ≤ g) → x ≤ lmin l := by
        intro l
        induction l with
        | nil => intro h; exact absurd rfl h
        | cons a l ih =>
          intro _ h
          cases l with
          | nil => exact h 0 a rfl
          | cons b l =>
            show x ≤ min a (lmin (b :: l))
            have h1 := h 0 a rfl
            have h2 := ih (by simp) fun i g hg => h (i + 1) g hg
            rw [Rat.min_def]
            split <;> assumption
      have h2 := up (l := y :: qs) (by simp) fun i g hg => k (i + 1) g hg
      rw [Rat.min_def]
      grind
    | succ j =>
      rw [lmin_eq (qs := y :: qs) (j := j) h fun i g hg => k (i + 1) g hg, Rat.min_def]
      grind
theorem fst_R {lt : QQ → QQ → Bool} {qs : List Rat} {j : Nat} (f : Fst lt (qs.map ofR) j) : ∃ q, qs[j]? = some q ∧ ∀ (i : Nat) g, qs[i]? = some g → lt (ofR q) (ofR g) = false := by
  obtain ⟨f, e, k, _⟩ := f
  rw [List.getElem?_map] at e
  cases h : qs[j]? with
  | none => rw [h] at e; cases e
  | some q =>
    rw [h] at e
    cases e
    exact ⟨q, rfl, fun i g hg => k i (ofR g) (by rw [List.getElem?_map, hg]; rfl)⟩
theorem max_R {qs : List Rat} {j : Nat} (f : Fst rlt (qs.map ofR) j) : qs[j]? = some (lmax qs) := by
  obtain ⟨q, h, k⟩ := fst_R f
  rw [lmax_eq h fun i g hg => by
    have z := k i g hg
    rw [rlt_R] at z
    exact Rat.not_lt.mp (of_decide_eq_false z)]
  exact h
theorem min_R {qs : List Rat} {j : Nat} (f : Fst (fun a b => rlt b a) (qs.map ofR) j) : qs[j]? = some (lmin qs) := by
  obtain ⟨q, h, k⟩ := fst_R f
  rw [lmin_eq h fun i g hg => by
    have z := k i g hg
    rw [rlt_R] at z
    exact Rat.not_lt.mp (of_decide_eq_false z)]
  exact h
/-- the place of the greatest, the least -/
def spIx (K : PySem.W.Frag) (best : List Rat → Rat) : Sp := fun vs H Q _ => ∃ (p : Addr) (xs : List V) (qs : List Rat), vs = [.ref p] ∧ Sq K H p xs ∧ FRs K H xs qs 3900 ∧ 0 < xs.length ∧ ∀ (j : Nat) H', Same H H' → qs[j]? = some (best qs) → Q (.int (j : Nat)) H'
/-- the greatest, the least itself -/
def spBest (K : PySem.W.Frag) (best : List Rat → Rat) : Sp := fun vs H Q _ => ∃ (p : Addr) (xs : List V) (qs : List Rat) (B : Nat), vs = [.ref p] ∧ SqL K H p xs ∧ FRs K H xs qs B ∧ B ≤ 20000 ∧ 0 < xs.length ∧ ∀ v, v ∈ xs → FR K H v (best qs) B → Q v H
/-- sums -/
theorem bt_up0 {B : Nat} (h : 0 < B) : Bt 0 B := by
  cases B with
  | zero => cases h
  | succ B => exact bt0
/-! ### terms and tables -/
mutual
def Tm.bt (b : Nat) : Tm → Nat
  | .ev _ => b
  | .nd _ ts => ts.length * (Tm.bm b ts + 41) + 2
def Tm.bm (b : Nat) : List Tm → Nat
  | [] => 0
  | t :: ts => Nat.max (t.bt b) (Tm.bm b ts)
end
theorem bm_ge {b : Nat} : ∀ {ts : List Tm} {u : Tm}, u ∈ ts → u.bt b ≤ Tm.bm b ts
  | t :: ts, u, h => by
    rw [Tm.bm]
    rcases List.mem_cons.mp h with z | z
    · rw [z]; exact Nat.le_max_left _ _
    · exact Nat.le_trans (bm_ge z) (Nat.le_max_right _ _)
theorem bm_le {b B : Nat} : ∀ {ts : List Tm}, (∀ t ∈ ts, t.bt b ≤ B) → Tm.bm b ts ≤ B
  | [], _ => by rw [Tm.bm]; exact Nat.zero_le _
  | t :: ts, h => by
    rw [Tm.bm]
    exact Nat.max_le.mpr ⟨h t List.mem_cons_self, bm_le fun u hu => h u (List.mem_cons_of_mem _ hu)⟩
/-- fit for evaluation -/
def VOk : Nat → Tm → Prop
  | 0, _ => False
  | _ + 1, .ev _ => True
  | n + 1, .nd k ts => ((1 ≤ ts.length ∧ ts.length ≤ 60) ∧ (k = .median → ts.length = 3)) ∧ ∀ t ∈ ts, VOk n t
theorem VOk.arN : ∀ {n : Nat} {t : Tm}, VOk n t → ArN n t
  | 0, _, h => h
  | n + 1, .ev _, _ => trivial
  | n + 1, .nd k ts, h => ⟨h.1.1, fun t ht => (h.2 t ht).arN⟩
theorem VOk.up : ∀ {n : Nat} {t : Tm}, VOk n t → VOk (n + 1) t
  | 0, _, h => h.elim
  | n + 1, .ev _, _ => trivial
  | n + 1, .nd k ts, h => ⟨h.1, fun t ht => (h.2 t ht).up⟩
theorem VOk.le {n m : Nat} (l : n ≤ m) {t : Tm} (h : VOk n t) : VOk m t := by
  induction l with
  | refl => exact h
  | step _ ih => exact ih.up
theorem Good.vok {ss : List Str} : ∀ {n : Nat} {t : Tm}, Good ss n t → VOk n t
  | 0, _, h => h
  | n + 1, .ev s, h => trivial
  | n + 1, .nd k ts, h => ⟨⟨Good.ar (n := n + 1) (t := .nd k ts) h, fun e => by have := h.1; rw [e] at this; exact this⟩, fun t ht => (h.2 t ht).vok⟩
def btG (b : Nat) : Nat → Nat
  | 0 => b
  | n + 1 => 3 * (btG b n + 41) + 2
theorem btG_ge (b : Nat) : ∀ n, b ≤ btG b n
  | 0 => Nat.le_refl _
  | n + 1 => by have := btG_ge b n; rw [btG]; omega
theorem Good.bt {ss : List Str} {b : Nat} : ∀ {n : Nat} {t : Tm}, Good ss (n + 1) t → t.bt b ≤ btG b n
  | n, .ev s, _ => by rw [Tm.bt]; exact btG_ge b n
  | 0, .nd k ts, h => by
    exfalso
    have h1 := (Good.ar (n := 1) (t := .nd k ts) h).1
    obtain ⟨u, hu⟩ : ∃ u, u ∈ ts := by
      cases ts with
      | nil => exact absurd h1 (by simp)
      | cons u _ => exact ⟨u, List.mem_cons_self⟩
    exact h.2 u hu
  | n + 1, .nd k ts, h => by
    have h3 := h.1.three
    have hb := bm_le (b := b) (B := btG b n) fun t ht => (h.2 t ht).bt
    have m1 := Nat.mul_le_mul h3 (Nat.add_le_add_right hb 41)
    rw [Tm.bt, btG]
    omega
def Tbl (K : PySem.W.Frag) (H : Hp) (d : Addr) (ρ : Str → Rat) (ss : List Str) (b : Nat) : Prop := ∃ kvs : List (Key × V), H d = some (.dK kvs) ∧ ∀ s ∈ ss, ∃ v, valV kvs (Sum.inr s : Key) = some v ∧ FR K H v (ρ s) b
theorem Tbl.same {K : PySem.W.Frag} {H H' : Hp} {d : Addr} {ρ : Str → Rat} {ss : List Str} {b : Nat} (h : Tbl K H d ρ ss b) (s : Same H H') : Tbl K H' d ρ ss b := by
  obtain ⟨kvs, e, k⟩ := h
  exact ⟨kvs, s _ _ e, fun x hx => by obtain ⟨v, h1, h2⟩ := k x hx; exact ⟨v, h1, h2.same s⟩⟩
theorem Tbl.sub {K : PySem.W.Frag} {H : Hp} {d : Addr} {ρ : Str → Rat} {ss ts : List Str} {b : Nat} (h : Tbl K H d ρ ss b) (k : ∀ s ∈ ts, s ∈ ss) : Tbl K H d ρ ts b := by
  obtain ⟨kvs, e, z⟩ := h
  exact ⟨kvs, e, fun x hx => z x (k x hx)⟩
theorem Tbl.kp {K : PySem.W.Frag} {H H' : Hp} {r d : Addr} {ρ : Str → Rat} {ss : List Str} {b : Nat} (h : Tbl K H d ρ ss b) (R : Rg H r) (k : Kp r H H') : Tbl K H' d ρ ss b := by
  obtain ⟨kvs, e, z⟩ := h
  have dr : d ≠ r := by
    obtain ⟨c, ns, i, x, kk, R⟩ := R
    exact ne_of e R.hr fun z => by cases z
  exact ⟨kvs, k.1 _ _ dr e, fun x hx => by obtain ⟨v, h1, h2⟩ := z x hx; exact ⟨v, h1, h2.kp R k⟩⟩
theorem flat_mem {ts : List Tm} : ∀ {u : Tm}, u ∈ ts → ∀ s ∈ u.flat, s ∈ Tm.flats ts := by
  induction ts with
  | nil => intro u h; cases h
  | cons t ts ih =>
    intro u h s hs
    rw [Tm.flats]
    rcases List.mem_cons.mp h with z | z
    · rw [z] at hs; exact List.mem_append_left _ hs
    · exact List.mem_append_right _ (ih z s hs)
def spVal (K : PySem.W.Frag) : Nat → Sp
  | 0 => fun _ _ _ _ => False
  | n + 1 => fun vs H Q _ => ∃ (v : V) (d : Addr) (t : Tm) (ρ : Str → Rat) (b : Nat), vs = [v, .ref d] ∧ TmAt K H (n + 1) v t ∧ VOk (n + 1) t ∧ t.bt b ≤ 3900 ∧ Tbl K H d ρ t.flat b ∧ ∀ u H', Same H H' → FR K H' u (t.val ρ) (t.bt b) → Q u H'
theorem TmAt.hd {K : PySem.W.Frag} {H : Hp} {n : Nat} {v : V} {k : Kd} {ts : List Tm} (ht : TmAt K H (n + 1) v (.nd k ts)) : ∃ p ys, v = .ref p ∧ SqT K H p (.str (kdS k) :: ys) := by
  obtain ⟨xs, hN, _⟩ := ht
  cases k with
  | delay f => obtain ⟨p, x, fv, _, e, hp, _⟩ := hN; exact ⟨p, _, e, hp⟩
  | max => obtain ⟨p, e, hp⟩ := hN; exact ⟨p, _, e, hp⟩
  | min => obtain ⟨p, e, hp⟩ := hN; exact ⟨p, _, e, hp⟩
  | median => obtain ⟨p, e, hp⟩ := hN; exact ⟨p, _, e, hp⟩
  | mix ws => obtain ⟨p, ys, e, hp, _⟩ := hN; exact ⟨p, _, e, hp⟩
theorem kd_ev (k : Kd) : decide (kdS k = ("event" : Str)) = false := by
  cases k with
  | delay f => exact (show decide (("delay" : Str) = "event") = false by decide +kernel)
  | max => exact (show decide (("max" : Str) = "event") = false by decide +kernel)
  | min => exact (show decide (("min" : Str) = "event") = false by decide +kernel)
  | median => exact (show decide (("median" : Str) = "event") = false by decide +kernel)
  | mix ws => exact (show decide (("mix" : Str) = "event") = false by decide +kernel)
theorem sum_lmix : ∀ (ws xs : List Rat) (s : Rat), (List.zipWith (· * ·) ws xs).foldl (· + ·) s = s + lmix ws xs
  | [], xs, s => by
    cases xs <;> (show s = s + (0 : Rat); grind)
  | w :: ws, [], s => by show s = s + (0 : Rat); grind
  | w :: ws, x :: xs, s => by
    show (List.zipWith (· * ·) ws xs).foldl (· + ·) (s + w * x) = s + (w * x + lmix ws xs)
    rw [sum_lmix ws xs]
    grind
theorem fr_zero {K : PySem.W.Frag} {H : Hp} {p : Addr} (h : SqT K H p [.int 0, .int 1]) : FR K H (.ref p) 0 1 := FR.mk ⟨p, rfl, h⟩ (bt0 (B := 0))
/-! ### distances -/
def rabs (x : Rat) : Rat := if x < 0 then -x else x
theorem rabs_of (x : Rat) : ofR (rabs x) = ((if (ofR x).1 < 0 then -(ofR x).1 else (ofR x).1), (ofR x).2) := by
  unfold rabs ofR
  have e : x < 0 ↔ x.num < 0 := by
    rw [Rat.lt_iff]
    show x.num * 1 < 0 * (x.den : Int) ↔ _
    rw [Int.mul_one, Int.zero_mul]
  by_cases h : x < 0
  · rw [if_pos h, if_pos (e.mp h), Rat.neg_num, Rat.neg_den]
  · rw [if_neg h, if_neg (fun z => h (e.mpr z))]
theorem Bt.abs {x : Rat} {B : Nat} (h : Bt x B) : Bt (rabs x) B := by
  unfold rabs
  split
  · exact h.neg
  · exact h
theorem rabs_le {x c : Rat} (h : rabs x ≤ c) : x ≤ c ∧ -x ≤ c := by
  unfold rabs at h
  split at h <;> grind
theorem rabs_of_le {x c : Rat} (h1 : x ≤ c) (h2 : -x ≤ c) : rabs x ≤ c := by
  unfold rabs
  split <;> assumption
theorem lmax_ge : ∀ {qs : List Rat} {q : Rat}, q ∈ qs → q ≤ lmax qs
  | [x], q, h => by rw [List.mem_singleton.mp h]; exact Rat.le_refl
  | x :: y :: qs, q, h => by
    show q ≤ max x (lmax (y :: qs))
    rcases List.mem_cons.mp h with z | z
    · rw [z, Rat.max_def]; grind
    · have := lmax_ge z
      rw [Rat.max_def]
      grind

/-! ### tables drawn pair by pair -/
def DTab (K : PySem.W.Frag) (H : Hp) (D : Addr) (ss : List Str) (i : Nat) (qs : List Rat) (b : Nat) : Prop := ∃ (pas : List Addr) (vs : List V), H D = some (.lst (pas.map V.ref)) ∧ pas.length = i ∧ vs.length = i ∧ FRs K H vs qs b ∧ ∀ (j : Nat) p s v, pas[j]? = some p → ss[j]? = some s → vs[j]? = some v → SqT K H p [.str s, v]
theorem DTab.nil {K : PySem.W.Frag} {H : Hp} {D : Addr} {ss : List Str} {b : Nat} : DTab K (upd H D (.lst [])) D ss 0 [] b := ⟨[], [], upd_same, rfl, rfl, FRs.nil, fun j p s v h => by cases h⟩
theorem SqT.put {K : PySem.W.Frag} {H : Hp} {D p : Addr} {l l' xs : List V} (h : SqT K H p xs) (hD : H D = some (.lst l)) : SqT K (upd H D (.lst l')) p xs := by
  rcases h with (z | ⟨o, z⟩) | z
  · exact .inl (.inl (by rw [upd_ne (ne_of z hD (fun y => by cases y))]; exact z))
  · exact .inl (.inr ⟨o, by rw [upd_ne (ne_of z hD (fun y => by cases y))]; exact z⟩)
  · exact .inr z
/-- one pair more: what stood at H1 stands at H2, there the pair (s, v) is made at p -/
theorem DTab.more {K : PySem.W.Frag} {H1 H2 : Hp} {D : Addr} {ss : List Str} {i : Nat} {qs : List Rat} {b : Nat} {s : Str} {v : V} {q : Rat} {p : Addr} (h : DTab K H1 D ss i qs b) (hi : i < 1000) (hs : ss[i]? = some s) (fD : ∀ l, H1 D = some (.lst l) → H2 D = some (.lst l)) (fT : ∀ p xs, SqT K H1 p xs → SqT K H2 p xs) (fv : FR K H2 v q b) (np : H2 p = none) :
    ∃ acc, (upd H2 p (.tup [.str s, v])) D = some (.lst acc) ∧ acc.length < sizeLine ∧ DTab K (upd (upd H2 p (.tup [.str s, v])) D (.lst (acc ++ [.ref p]))) D ss (i + 1) (qs ++ [q]) b := by
  obtain ⟨pas, vs, hD, l1, l2, hF, hP⟩ := h
  have sp := Same.new (o := .tup [.str s, v]) np
  have hD2 := sp _ _ (fD _ hD)
  refine ⟨_, hD2, by rw [List.length_map, l1]; exact szl (by omega), pas ++ [p], vs ++ [v], by rw [upd_same, List.map_append]; rfl, by rw [List.length_append, l1]; rfl, by rw [List.length_append, l2]; rfl, ?_, ?_⟩
  · exact FRs.snoc ⟨hF.1, fun j x f a c => by
      rw [List.getElem?_map] at c
      cases e : qs[j]? with
      | none => rw [e] at c; cases c
      | some q => rw [e] at c; cases c; exact FR.put (FR.same ⟨(by obtain ⟨a', e', z⟩ := (hF.at a e).fr; exact ⟨a', e', fT _ _ z⟩), (hF.at a e).d0, (hF.at a e).g, (hF.at a e).nB, (hF.at a e).dB⟩ sp) hD2⟩ ((fv.same sp).put hD2)
  · intro j p' s' v' e1 e2 e3
    by_cases hj : j < i
    · rw [List.getElem?_append_left (by omega)] at e1 e3
      exact SqT.put (Same.T sp (fT _ _ (hP j p' s' v' e1 e2 e3))) hD2
    · have ej : j = i := by
        have := (List.getElem?_eq_some_iff.mp e1).1
        rw [List.length_append, l1] at this
        have : j < i + 1 := this
        omega
      subst ej
      rw [List.getElem?_append_right (by omega), l1, Nat.sub_self] at e1
      rw [List.getElem?_append_right (by omega), l2, Nat.sub_self] at e3
      cases e1; cases e3
      rw [hs] at e2; cases e2
      exact SqT.put (SqT.of upd_same) hD2
def kvz (ss : List Str) (vs : List V) : List (Key × V) := (ss.zip vs).map fun z => (Sum.inr z.1, z.2)
theorem paired_of {K : PySem.W.Frag} {H : Hp} : ∀ {pas : List Addr} {ss : List Str} {vs : List V}, pas.length = ss.length → vs.length = ss.length → (∀ (j : Nat) p s v, pas[j]? = some p → ss[j]? = some s → vs[j]? = some v → SqT K H p [.str s, v]) → Paired (fun p kv => SqT K H p [kV kv.1, kv.2]) pas (kvz ss vs)
  | [], [], [], _, _, _ => .nil
  | p :: pas, s :: ss, v :: vs, l1, l2, h => .cons (h 0 p s v rfl rfl rfl) (paired_of (by simpa using l1) (by simpa using l2) fun j p' s' v' e1 e2 e3 => h (j + 1) p' s' v' e1 e2 e3)
  | [], _ :: _, _, l1, _, _ => by cases l1
  | _ :: _, [], _, l1, _, _ => by cases l1
  | [], [], _ :: _, _, l2, _ => by cases l2
  | _ :: _, _ :: _, [], _, l2, _ => by cases l2
theorem merge_old : ∀ (l acc : List (Key × V)) (k : Key), (∀ z ∈ l, z.1 ≠ k) → valV (mergeK acc l) k = valV acc k
  | [], _, _, _ => rfl
  | z :: l, acc, k, h => by
    show valV (mergeK (putK acc z.1 z.2) l) k = _
    rw [merge_old l _ k fun y hy => h y (List.mem_cons_of_mem _ hy), valV_put, if_neg fun e => h z List.mem_cons_self e.symm]
theorem merge_at : ∀ {ss : List Str} {vs : List V} {acc : List (Key × V)} {j : Nat} {s : Str} {v : V}, ss.Nodup → ss[j]? = some s → vs[j]? = some v → valV (mergeK acc (kvz ss vs)) (Sum.inr s : Key) = some v
  | [], _, _, _, _, _, _, h, _ => by cases h
  | _ :: _, [], _, _, _, _, _, _, h => by cases h
  | x :: ss, y :: vs, acc, 0, s, v, nd, h1, h2 => by
    cases h1; cases h2
    show valV (mergeK (putK acc (Sum.inr x) y) (kvz ss vs)) _ = _
    rw [merge_old, valV_put, if_pos rfl]
    intro z hz e
    obtain ⟨w, hw, rfl⟩ := List.mem_map.mp hz
    have := (List.of_mem_zip hw).1
    exact (List.nodup_cons.mp nd).1 (Sum.inr.inj e ▸ this)
  | x :: ss, y :: vs, acc, j + 1, s, v, nd, h1, h2 => by
    show valV (mergeK (putK acc (Sum.inr x) y) (kvz ss vs)) _ = _
    exact merge_at (List.nodup_cons.mp nd).2 h1 h2
theorem ex_asg : ∀ {ss : List Str} {qs : List Rat}, ss.Nodup → ∃ ρ : Str → Rat, ∀ (j : Nat) s q, ss[j]? = some s → qs[j]? = some q → ρ s = q
  | [], _, _ => ⟨fun _ => 0, fun j s q h => by cases h⟩
  | x :: ss, [], _ => ⟨fun _ => 0, fun j s q _ h => by cases h⟩
  | x :: ss, y :: qs, nd => by
    obtain ⟨ρ, h⟩ := ex_asg (ss := ss) (qs := qs) (List.nodup_cons.mp nd).2
    refine ⟨fun z => if z = x then y else ρ z, fun j s q h1 h2 => ?_⟩
    cases j with
    | zero => cases h1; cases h2; exact if_pos rfl
    | succ j =>
      have hne : s ≠ x := fun e => (List.nodup_cons.mp nd).1 (e ▸ List.mem_of_getElem? h1)
      show (if s = x then y else ρ s) = q
      rw [if_neg hne]
      exact h j s q h1 h2
/-- dict(..) of the pairs -/
theorem DTab.done {K : PySem.W.Frag} {H : Hp} {D : Addr} {ss : List Str} {qs : List Rat} {b : Nat} (h : DTab K H D ss ss.length qs b) (nd : ss.Nodup) {ρ : Str → Rat} (hρ : ∀ (j : Nat) s q, ss[j]? = some s → qs[j]? = some q → ρ s = q) :
    ∃ (ps : List Addr) (kvs : List (Key × V)), SqL K H D (ps.map V.ref) ∧ Paired (fun p kv => SqT K H p [kV kv.1, kv.2]) ps kvs ∧ ∀ d, H d = none → Tbl K (upd H d (.dK (mergeK [] kvs))) d ρ ss b := by
  obtain ⟨pas, vs, hD, l1, l2, hF, hP⟩ := h
  refine ⟨pas, kvz ss vs, SqL.of hD, paired_of l1 l2 hP, fun d nd' => ⟨_, upd_same, fun s hs => ?_⟩⟩
  obtain ⟨j, hj, e⟩ := List.getElem_of_mem hs
  have hs' : ss[j]? = some s := by rw [List.getElem?_eq_getElem hj, e]
  have hv : vs[j]? = some (vs[j]'(by omega)) := List.getElem?_eq_getElem _
  obtain ⟨q, hq, fq⟩ := hF.get hv
  refine ⟨_, merge_at nd hs' hv, ?_⟩
  rw [hρ j s q hs' hq]
  exact fq.same (Same.new nd')
theorem sum_more {qs : List Rat} {s : Rat} {i : Nat} {q : Rat} (h : qs[i]? = some q) : (qs.take (i + 1)).foldl (· + ·) s = (qs.take i).foldl (· + ·) s + q := by
  rw [List.take_add_one, h, List.foldl_append]
  rfl
theorem ded_mem {l : List Str} {x : Str} : x ∈ ded l ↔ x ∈ l := by
  unfold ded
  rw [fold_mem]
  simp
theorem strs_at {l : List Str} {i : Nat} {x : V} (h : (l.map V.str)[i]? = some x) : ∃ s, l[i]? = some s ∧ x = .str s := by
  rw [List.getElem?_map] at h
  cases e : l[i]? with
  | none => rw [e] at h; cases h
  | some q => rw [e] at h; exact ⟨q, rfl, (Option.some.inj h).symm⟩
theorem med3_in (x y z : Rat) : med3 x y z = x ∨ med3 x y z = y ∨ med3 x y z = z := by
  unfold med3
  simp only [Rat.max_def, Rat.min_def]
  grind
theorem med3_sum (x y z : Rat) : (0 + x + y + z) - (lmin [x, y, z] + lmax [x, y, z]) = med3 x y z := by
  show (0 + x + y + z) - (min x (min y z) + max x (max y z)) = med3 x y z
  unfold med3
  simp only [Rat.max_def, Rat.min_def]
  grind
theorem ofR_bt {q : Rat} {B : Nat} {K : PySem.W.Frag} {H : Hp} {v : V} {C : Nat} (f : FR K H v q B) (b : Bt q C) : FR K H v q C := FR.mk f.fr b
/-! ### tables that may lack names -/
def TabX (K : PySem.W.Frag) (H : Hp) (d : Addr) (kvs : List (Key × V)) (ρ : Str → Rat) (b : Nat) : Prop := H d = some (.dK kvs) ∧ ∀ (s : Str) v, valV kvs (Sum.inr s : Key) = some v → FR K H v (ρ s) b
theorem TabX.same {K : PySem.W.Frag} {H H' : Hp} {d : Addr} {kvs : List (Key × V)} {ρ : Str → Rat} {b : Nat} (h : TabX K H d kvs ρ b) (s : Same H H') : TabX K H' d kvs ρ b := ⟨s _ _ h.1, fun x v e => (h.2 x v e).same s⟩
theorem TabX.kp {K : PySem.W.Frag} {H H' : Hp} {r d : Addr} {kvs : List (Key × V)} {ρ : Str → Rat} {b : Nat} (h : TabX K H d kvs ρ b) (R : Rg H r) (k : Kp r H H') : TabX K H' d kvs ρ b := by
  have dr : d ≠ r := by
    obtain ⟨c, ns, i, x, kk, R⟩ := R
    exact ne_of h.1 R.hr fun z => by cases z
  exact ⟨k.1 _ _ dr h.1, fun x v e => (h.2 x v e).kp R k⟩
def missing (kvs : List (Key × V)) (t : Tm) : List Str := (ded t.flat).filter fun s => (valV kvs (Sum.inr s : Key)).isNone
theorem TabX.tbl {K : PySem.W.Frag} {H : Hp} {d : Addr} {kvs : List (Key × V)} {ρ : Str → Rat} {b : Nat} {t : Tm} (h : TabX K H d kvs ρ b) (m : missing kvs t = []) : Tbl K H d ρ t.flat b := by
  refine ⟨kvs, h.1, fun s hs => ?_⟩
  cases e : valV kvs (Sum.inr s : Key) with
  | some v => exact ⟨v, rfl, h.2 s v e⟩
  | none =>
    exfalso
    have : s ∈ missing kvs t := List.mem_filter.mpr ⟨ded_mem.mpr hs, by rw [e]; rfl⟩
    rw [m] at this
    cases this
theorem TabX.dget {K : PySem.W.Frag} {H : Hp} {d : Addr} {kvs : List (Key × V)} {ρ : Str → Rat} {b : Nat} {s : Str} (h : TabX K H d kvs ρ b) : DGet H d (.str s) (valV kvs (Sum.inr s : Key)) := DGet.k (k := Sum.inr s) h.1
theorem Tbl.full {K : PySem.W.Frag} {H : Hp} {d : Addr} {ρ : Str → Rat} {t : Tm} {b : Nat} (h : Tbl K H d ρ t.flat b) : ∃ kvs, H d = some (.dK kvs) ∧ missing kvs t = [] ∧ ∀ s ∈ t.flat, ∃ v, valV kvs (Sum.inr s : Key) = some v ∧ FR K H v (ρ s) b := by
  obtain ⟨kvs, e, z⟩ := h
  refine ⟨kvs, e, ?_, z⟩
  unfold missing
  rw [List.filter_eq_nil_iff]
  intro s hs
  obtain ⟨v, hv, _⟩ := z s (ded_mem.mp hs)
  rw [hv]
  simp
theorem DTab.ext {K : PySem.W.Frag} {H : Hp} {D : Addr} {ss us : List Str} {qs : List Rat} {b : Nat} (h : DTab K H D ss ss.length qs b) : DTab K H D (ss ++ us) ss.length qs b := by
  obtain ⟨pas, vs, hD, l1, l2, hF, hP⟩ := h
  refine ⟨pas, vs, hD, l1, l2, hF, fun j p s v e1 e2 e3 => hP j p s v e1 ?_ e3⟩
  have jl : j < pas.length := (List.getElem?_eq_some_iff.mp e1).1
  rw [List.getElem?_append_left (by omega)] at e2
  exact e2
theorem put_nd {kvs : List (Key × V)} {k : Key} {v : V} (h : (kvs.map (·.1)).Nodup) : ((putK kvs k v).map (·.1)).Nodup := by
  cases e : valV kvs k with
  | none => exact nd_putK v h e
  | some y =>
    unfold putK
    have : (kvs.any fun kv => decide (kv.1 = k)) = true := by rw [valV_any, e]; rfl
    rw [if_pos this, List.map_map]
    have e2 : (fun kv : Key × V => (if kv.1 = k then (kv.1, v) else kv).1) = fun kv => kv.1 := by
      funext kv
      split <;> rfl
    exact (show (kvs.map fun kv => (if kv.1 = k then (kv.1, v) else kv).1).Nodup by rw [e2]; exact h)
theorem merge_nd : ∀ (l acc : List (Key × V)), (acc.map (·.1)).Nodup → ((mergeK acc l).map (·.1)).Nodup
  | [], _, h => h
  | z :: l, acc, h => merge_nd l (putK acc z.1 z.2) (put_nd h)
theorem DTab.doneX {K : PySem.W.Frag} {H : Hp} {D : Addr} {ss : List Str} {qs : List Rat} {b : Nat} (h : DTab K H D ss ss.length qs b) (nd : ss.Nodup) {ρ : Str → Rat} (hρ : ∀ (j : Nat) s q, ss[j]? = some s → qs[j]? = some q → ρ s = q) :
    ∃ (ps : List Addr) (kvs : List (Key × V)), SqL K H D (ps.map V.ref) ∧ Paired (fun p kv => SqT K H p [kV kv.1, kv.2]) ps kvs ∧ (∀ k, ∀ v, valV (mergeK [] kvs) k = some v → ∃ c, v = V.ref c) ∧ ((mergeK [] kvs).map (·.1)).Nodup ∧ ∀ d, H d = none → TabX K (upd H d (.dK (mergeK [] kvs))) d (mergeK [] kvs) ρ b := by
  obtain ⟨pas, vs, hD, l1, l2, hF, hP⟩ := h
  have key : ∀ k v, valV (mergeK [] (kvz ss vs)) k = some v → ∃ (j : Nat) (s : Str), ss[j]? = some s ∧ vs[j]? = some v ∧ k = Sum.inr s := by
    intro k v e
    by_cases hk : ∃ s ∈ ss, k = Sum.inr s
    · obtain ⟨s, hs, rfl⟩ := hk
      obtain ⟨j, hj, ej⟩ := List.getElem_of_mem hs
      have hs' : ss[j]? = some s := by rw [List.getElem?_eq_getElem hj, ej]
      have hv : vs[j]? = some (vs[j]'(by omega)) := List.getElem?_eq_getElem _
      rw [merge_at nd hs' hv] at e
      cases e
      exact ⟨j, s, hs', hv, rfl⟩
    · rw [merge_old _ _ _ fun z hz e2 => ?_] at e
      · cases e
      · obtain ⟨y, hy, rfl⟩ := List.mem_map.mp hz
        exact hk ⟨y.1, (List.of_mem_zip hy).1, e2.symm⟩
  refine ⟨pas, kvz ss vs, SqL.of hD, paired_of l1 l2 hP, fun k v e => ?_, merge_nd _ _ List.nodup_nil, fun d nd' => ⟨upd_same, fun s v e => ?_⟩⟩
  · obtain ⟨j, s, hs, hv, _⟩ := key k v e
    obtain ⟨q, hq, fq⟩ := hF.get hv
    obtain ⟨c, ec, _⟩ := fq.fr
    exact ⟨c, ec⟩
  · obtain ⟨j, s', hs, hv, es⟩ := key _ v e
    cases es
    obtain ⟨q, hq, fq⟩ := hF.get hv
    rw [hρ j s q hs hq]
    exact fq.same (Same.new nd')
theorem All2.cons1 {R : V → Tm → Prop} {x : V} {t : Tm} {xs : List V} {ts : List Tm} (k : R x t) (h : All2 R xs ts) : All2 R (x :: xs) (t :: ts) :=
  ⟨by rw [List.length_cons, List.length_cons, h.1], fun i y u a b => by
    cases i with
    | zero => cases a; cases b; exact k
    | succ i => exact h.2 i y u a b⟩
theorem all2_ex {R : V → Tm → Prop} {G : Tm → Prop} : ∀ {ys : List V}, (∀ y ∈ ys, ∃ t, R y t ∧ G t) → ∃ ts, All2 R ys ts ∧ ∀ t ∈ ts, G t
  | [], _ => ⟨[], All2.nil, fun t h => by cases h⟩
  | y :: ys, h => by
    obtain ⟨t, r, g⟩ := h y List.mem_cons_self
    obtain ⟨ts, a, b⟩ := all2_ex (ys := ys) fun z hz => h z (List.mem_cons_of_mem _ hz)
    refine ⟨t :: ts, All2.cons1 r a, fun u hu => ?_⟩
    rcases List.mem_cons.mp hu with e | e
    · rw [e]; exact g
    · exact b u e
theorem All2.ex {R : V → Tm → Prop} {G : Tm → Prop} {xs : List V} {ts : List Tm} (h : All2 R xs ts) (g : ∀ t ∈ ts, G t) : ∀ x ∈ xs, ∃ t, R x t ∧ G t := fun x hx => by
  obtain ⟨i, hi, e⟩ := List.getElem_of_mem hx
  obtain ⟨t, ht, r⟩ := h.at (i := i) (x := x) (by rw [List.getElem?_eq_getElem hi, e])
  exact ⟨t, r, g t (List.mem_of_getElem? ht)⟩
/-- a term of the law, wide or not -/
structure FitT (K : PySem.W.Frag) (H : Hp) (ss : List Str) (v : V) (t : Tm) : Prop where
  at' : TmAt K H 12 v t
  vok : VOk 12 t
  fin : ∀ s ∈ t.flat, s ∈ ss
  bt : t.bt 40 ≤ 2705
  size : t.size ≤ 40
theorem flats_in {ss : List Str} : ∀ {n : Nat} {t : Tm}, Good ss n t → ∀ s ∈ t.flat, s ∈ ss
  | 0, _, h => h.elim
  | n + 1, .ev s, h => fun x hx => by rw [Tm.flat] at hx; rw [List.mem_singleton.mp hx]; exact h
  | n + 1, .nd k ts, h => fun x hx => by
    rw [Tm.flat] at hx
    have go : ∀ us : List Tm, (∀ u ∈ us, ∀ s ∈ u.flat, s ∈ ss) → ∀ x ∈ Tm.flats us, x ∈ ss := by
      intro us
      induction us with
      | nil => intro _ x hx; rw [Tm.flats] at hx; cases hx
      | cons u us ih =>
        intro hh x hx
        rw [Tm.flats] at hx
        rcases List.mem_append.mp hx with z | z
        · exact hh u List.mem_cons_self x z
        · exact ih (fun v hv => hh v (List.mem_cons_of_mem _ hv)) x z
    exact go ts (fun u hu => flats_in (h.2 u hu)) x hx
/-! ### terms that may be malformed -/
inductive Rk where
  | ev (ss : List Str) | dl (f : Option QQ) | mx (ws : List QQ) | nn (k : Str)
inductive Rw where
  | mk (k : Rk) (ts : List Rw) : Rw
def Rw.subs : Rw → List Rw
  | .mk _ ts => ts
def Rw.kd : Rw → Rk
  | .mk k _ => k
mutual
def Rw.size : Rw → Nat
  | .mk _ ts => 1 + Rw.sizes ts
def Rw.sizes : List Rw → Nat
  | [] => 0
  | t :: ts => t.size + Rw.sizes ts
end
mutual
def Rw.depth : Rw → Nat
  | .mk _ ts => 1 + Rw.depths ts
def Rw.depths : List Rw → Nat
  | [] => 0
  | t :: ts => Nat.max t.depth (Rw.depths ts)
end
theorem Rw.size_eq (t : Rw) : t.size = 1 + Rw.sizes t.subs := by cases t; rw [Rw.size]; rfl
theorem Rw.sizes_app : ∀ a b : List Rw, Rw.sizes (a ++ b) = Rw.sizes a + Rw.sizes b
  | [], b => by rw [List.nil_append, Rw.sizes]; omega
  | x :: a, b => by rw [List.cons_append, Rw.sizes, Rw.sizes, Rw.sizes_app a b]; omega
theorem Rw.sizes_len : ∀ ts : List Rw, ts.length ≤ Rw.sizes ts
  | [] => Nat.zero_le _
  | t :: ts => by
    have := Rw.sizes_len ts
    rw [Rw.sizes, List.length_cons, t.size_eq]
    omega
def fracB (f : QQ) : Bool := (decide (f.1.natAbs ≤ 999999999999) && (decide (1 ≤ f.2) && decide (f.2 ≤ 999999999999))) && decide (red f.1 f.2 = f)
def evB : List Str → Bool
  | [s] => nameB s
  | _ => false
def formK : Rk → Nat → Bool
  | .ev ss, _ => evB ss
  | .dl none, _ => false
  | .dl (some f), _ => fracB f
  | .mx ws, m => (decide (1 ≤ m) && decide (m ≤ 6)) && ((ws.all fun w => fracB w && decide (0 < w.1)) && decide (ws.foldl radd (0, 1) = (1, 1)))
  | .nn k, m => if k = "median" then decide (m = 3) else (decide (k = "max") || decide (k = "min")) && (decide (1 ≤ m) && decide (m ≤ 6))
def Rw.form (t : Rw) : Bool := formK t.kd t.subs.length
def isT : Nat → Rw → Bool
  | 0, _ => false
  | n + 1, t => t.form && t.subs.all (isT n)
/-- level by level -/
def bfs : Nat → List Rw → Nat → Bool
  | 0, l, _ => l.isEmpty
  | n + 1, l, s => l.isEmpty || (decide (s + l.length ≤ 40) && (l.all Rw.form && bfs n (l.flatMap Rw.subs) (s + l.length)))
theorem bfs_succ (n : Nat) (l : List Rw) (s : Nat) : bfs (n + 1) l s = (l.isEmpty || (decide (s + l.length ≤ 40) && (l.all Rw.form && bfs n (l.flatMap Rw.subs) (s + l.length)))) := rfl
theorem sizes_flat : ∀ l : List Rw, Rw.sizes l = l.length + Rw.sizes (l.flatMap Rw.subs)
  | [] => by rw [Rw.sizes]; rfl
  | t :: l => by
    have := sizes_flat l
    rw [List.flatMap_cons, Rw.sizes, Rw.sizes_app, List.length_cons, t.size_eq]
    omega
theorem bfs_eq : ∀ (n : Nat) (l : List Rw) (s : Nat), s ≤ 40 → bfs n l s = (l.all (isT n) && decide (s + Rw.sizes l ≤ 40))
  | 0, l, s, hs => by
    unfold bfs
    cases l with
    | nil => rw [Rw.sizes, decide_eq_true (by omega)]; rfl
    | cons t l => rfl
  | n + 1, l, s, hs => by
    unfold bfs
    cases l with
    | nil => rw [Rw.sizes, decide_eq_true (show s + 0 ≤ 40 by omega)]; rfl
    | cons t l =>
      have hl := Rw.sizes_len (t :: l)
      show (decide (s + (t :: l).length ≤ 40) && _) = _
      by_cases h : s + (t :: l).length ≤ 40
      · rw [decide_eq_true h, bfs_eq n _ _ h, Bool.true_and]
        have e : s + Rw.sizes (t :: l) = s + (t :: l).length + Rw.sizes ((t :: l).flatMap Rw.subs) := by rw [sizes_flat]; omega
        rw [e, ← Bool.and_assoc]
        congr 1
        have key : ∀ m : List Rw, (m.all Rw.form && (m.flatMap Rw.subs).all (isT n)) = m.all (isT (n + 1)) := by
          intro m
          induction m with
          | nil => rfl
          | cons x m ih =>
            rw [List.flatMap_cons, List.all_append, List.all_cons, List.all_cons, ← ih]
            show _ = (x.form && x.subs.all (isT n) && _)
            cases x.form <;> cases (x.subs.all (isT n)) <;> cases (m.all Rw.form) <;> cases ((m.flatMap Rw.subs).all (isT n)) <;> rfl
        exact key (t :: l)
      · rw [decide_eq_false h, Bool.false_and, decide_eq_false (show ¬ s + Rw.sizes (t :: l) ≤ 40 by omega), Bool.and_false]
/-! ### in memory -/
def All3 (R : V → Rw → Prop) (xs : List V) (ts : List Rw) : Prop := xs.length = ts.length ∧ ∀ (i : Nat) x t, xs[i]? = some x → ts[i]? = some t → R x t
theorem All3.mono {R S : V → Rw → Prop} {xs : List V} {ts : List Rw} (h : All3 R xs ts) (k : ∀ x t, R x t → S x t) : All3 S xs ts := ⟨h.1, fun i x t a b => k x t (h.2 i x t a b)⟩
theorem All3.nil {R : V → Rw → Prop} : All3 R [] [] := ⟨rfl, fun i x t h => by cases h⟩
theorem All3.cons {R : V → Rw → Prop} {x : V} {t : Rw} {xs : List V} {ts : List Rw} (k : R x t) (h : All3 R xs ts) : All3 R (x :: xs) (t :: ts) :=
  ⟨by rw [List.length_cons, List.length_cons, h.1], fun i y u a b => by
    cases i with
    | zero => cases a; cases b; exact k
    | succ i => exact h.2 i y u a b⟩
theorem All3.one {R : V → Rw → Prop} {x : V} {t : Rw} (k : R x t) : All3 R [x] [t] := All3.cons k All3.nil
theorem All3.at {R : V → Rw → Prop} {xs : List V} {ts : List Rw} (h : All3 R xs ts) {i : Nat} {x : V} (hx : xs[i]? = some x) : ∃ t, ts[i]? = some t ∧ R x t := by
  have l : i < ts.length := by rw [← h.1]; exact (List.getElem?_eq_some_iff.mp hx).1
  exact ⟨ts[i], List.getElem?_eq_getElem l, h.2 i x _ hx (List.getElem?_eq_getElem l)⟩
theorem All3.app {R : V → Rw → Prop} {xs ys : List V} {ts us : List Rw} (a : All3 R xs ts) (b : All3 R ys us) : All3 R (xs ++ ys) (ts ++ us) := by
  refine ⟨by rw [List.length_append, List.length_append, a.1, b.1], fun i x t h1 h2 => ?_⟩
  by_cases hi : i < xs.length
  · rw [List.getElem?_append_left hi] at h1
    rw [List.getElem?_append_left (by rw [← a.1]; exact hi)] at h2
    exact a.2 i x t h1 h2
  · rw [List.getElem?_append_right (by omega)] at h1
    rw [List.getElem?_append_right (by rw [← a.1]; omega), ← a.1] at h2
    exact b.2 _ x t h1 h2
theorem All3.rep {R : V → Rw → Prop} {x : V} {t : Rw} (k : R x t) : ∀ n, All3 R (List.replicate n x) (List.replicate n t)
  | 0 => All3.nil
  | n + 1 => All3.cons k (All3.rep k n)
structure FrW (K : PySem.W.Frag) (H : Hp) (v : V) (f : QQ) : Prop where
  fr : Fr K H v f.1 f.2
  nB : f.1.natAbs < 2 ^ 120
  dB : f.2.natAbs < 2 ^ 120
def RNode (K : PySem.W.Frag) (H : Hp) (v : V) : Rk → List V → Prop
  | .ev ss, xs => xs = [] ∧ ss.length ≤ 2000 ∧ (∀ s ∈ ss, s.length ≤ 4000) ∧ ∃ p, v = .ref p ∧ SqT K H p (.str "event" :: ss.map V.str)
  | .dl none, xs => ∃ p x, xs = [x] ∧ v = .ref p ∧ SqT K H p [.str "delay", x]
  | .dl (some f), xs => ∃ p x fv, xs = [x] ∧ v = .ref p ∧ SqT K H p [.str "delay", x, fv] ∧ FrW K H fv f
  | .mx ws, xs => ∃ p ys, v = .ref p ∧ SqT K H p (.str "mix" :: ys) ∧ ys.length = xs.length ∧ ws.length = xs.length ∧ ∀ (i : Nat) y x f, ys[i]? = some y → xs[i]? = some x → ws[i]? = some f → ∃ q wv, y = .ref q ∧ SqT K H q [wv, x] ∧ FrW K H wv f
  | .nn k, xs => k ≠ "event" ∧ k ≠ "delay" ∧ k ≠ "mix" ∧ ∃ p, v = .ref p ∧ SqT K H p (.str k :: xs)
def RwAt (K : PySem.W.Frag) (H : Hp) : Nat → V → Rw → Prop
  | 0, _, _ => False
  | n + 1, v, .mk k ts => ts.length ≤ 2000 ∧ ∃ xs, RNode K H v k xs ∧ All3 (RwAt K H n) xs ts
section
variable {K : PySem.W.Frag} {H H' : Hp}
theorem FrW.imp {v : V} {f : QQ} (h : FrW K H v f) (sT : ∀ p xs, SqT K H p xs → SqT K H' p xs) : FrW K H' v f := ⟨(by obtain ⟨p, e, z⟩ := h.fr; exact ⟨p, e, sT _ _ z⟩), h.nB, h.dB⟩
theorem RNode.imp (sT : ∀ p xs, SqT K H p xs → SqT K H' p xs) {v : V} {k : Rk} {xs : List V} (h : RNode K H v k xs) : RNode K H' v k xs := by
  match k, h with
  | .ev ss, ⟨a, b, c, p, e, z⟩ => exact ⟨a, b, c, p, e, sT _ _ z⟩
  | .dl none, ⟨p, x, e1, e2, z⟩ => exact ⟨p, x, e1, e2, sT _ _ z⟩
  | .dl (some f), ⟨p, x, fv, e1, e2, z, w⟩ => exact ⟨p, x, fv, e1, e2, sT _ _ z, w.imp sT⟩
  | .mx ws, ⟨p, ys, e, z, l1, l2, h⟩ =>
    refine ⟨p, ys, e, sT _ _ z, l1, l2, fun i y x f a b c => ?_⟩
    obtain ⟨q, wv, e', h3, h4⟩ := h i y x f a b c
    exact ⟨q, wv, e', sT _ _ h3, h4.imp sT⟩
  | .nn k, ⟨a, b, c, p, e, z⟩ => exact ⟨a, b, c, p, e, sT _ _ z⟩
theorem RwAt.imp (sT : ∀ p xs, SqT K H p xs → SqT K H' p xs) : ∀ {n : Nat} {v : V} {t : Rw}, RwAt K H n v t → RwAt K H' n v t
  | 0, _, _, h => h
  | n + 1, v, .mk k ts, h => by
    obtain ⟨l, xs, h1, h2⟩ := h
    exact ⟨l, xs, h1.imp sT, h2.mono fun x t z => RwAt.imp sT z⟩
theorem RwAt.same (s : Same H H') {n : Nat} {v : V} {t : Rw} (h : RwAt K H n v t) : RwAt K H' n v t := h.imp fun _ _ z => Same.T s z
theorem RwAt.kp {r : Addr} (R : Rg H r) (k : Kp r H H') {n : Nat} {v : V} {t : Rw} (h : RwAt K H n v t) : RwAt K H' n v t := h.imp fun _ _ z => RgT R k z
theorem sqPut {D p : Addr} {l l' xs : List V} (h : SqT K H p xs) (hD : H D = some (.lst l)) : SqT K (upd H D (.lst l')) p xs := by
  rcases h with (z | ⟨o, z⟩) | z
  · exact .inl (.inl (by rw [upd_ne (ne_of z hD (fun y => by cases y))]; exact z))
  · exact .inl (.inr ⟨o, by rw [upd_ne (ne_of z hD (fun y => by cases y))]; exact z⟩)
  · exact .inr z
theorem RwAt.put {D : Addr} {l l' : List V} (hD : H D = some (.lst l)) {n : Nat} {v : V} {t : Rw} (h : RwAt K H n v t) : RwAt K (upd H D (.lst l')) n v t := h.imp fun _ _ z => sqPut z hD
theorem RwAt.up : ∀ {n : Nat} {v : V} {t : Rw}, RwAt K H n v t → RwAt K H (n + 1) v t
  | 0, _, _, h => h.elim
  | n + 1, v, .mk k ts, h => by
    obtain ⟨l, xs, h1, h2⟩ := h
    exact ⟨l, xs, h1, h2.mono fun x t z => RwAt.up z⟩
theorem RwAt.le {n m : Nat} (l : n ≤ m) {v : V} {t : Rw} (h : RwAt K H n v t) : RwAt K H m v t := by
  induction l with
  | refl => exact h
  | step _ ih => exact ih.up
end
/-- a tuple that begins with a text, n items in all -/
theorem RwAt.hd {K : PySem.W.Frag} {H : Hp} {n : Nat} {v : V} {t : Rw} (h : RwAt K H (n + 1) v t) : ∃ p k ys, v = .ref p ∧ SqT K H p (.str k :: ys) ∧ ys.length ≤ 2000 := by
  match t, h with
  | .mk (.ev ss) ts, ⟨l, xs, ⟨_, b, _, p, e, z⟩, h2⟩ => exact ⟨p, _, _, e, z, by rw [List.length_map]; exact b⟩
  | .mk (.dl none) ts, ⟨l, xs, ⟨p, x, e1, e2, z⟩, h2⟩ => exact ⟨p, _, _, e2, z, by show 1 ≤ 2000; decide⟩
  | .mk (.dl (some f)) ts, ⟨l, xs, ⟨p, x, fv, e1, e2, z, w⟩, h2⟩ => exact ⟨p, _, _, e2, z, by show 2 ≤ 2000; decide⟩
  | .mk (.mx ws) ts, ⟨l, xs, ⟨p, ys, e, z, l1, l2, _⟩, h2⟩ => exact ⟨p, _, _, e, z, by rw [l1, h2.1]; exact l⟩
  | .mk (.nn k) ts, ⟨l, xs, ⟨_, _, _, p, e, z⟩, h2⟩ => exact ⟨p, _, _, e, z, by rw [h2.1]; exact l⟩
theorem FrW.same {K : PySem.W.Frag} {H H' : Hp} {v : V} {f : QQ} (h : FrW K H v f) (s : Same H H') : FrW K H' v f := h.imp fun _ _ z => Same.T s z
/-- from a drawn term -/
def Kd.raw : Kd → Rk
  | .delay f => .dl (some f) | .max => .nn "max" | .min => .nn "min" | .median => .nn "median" | .mix ws => .mx ws
mutual
def Tm.raw : Tm → Rw
  | .ev s => .mk (.ev [s]) []
  | .nd k ts => .mk k.raw (Tm.raws ts)
def Tm.raws : List Tm → List Rw
  | [] => []
  | t :: ts => t.raw :: Tm.raws ts
end
theorem raws_map : ∀ ts : List Tm, Tm.raws ts = ts.map Tm.raw
  | [] => by rw [Tm.raws]; rfl
  | t :: ts => by rw [Tm.raws, raws_map ts]; rfl
theorem TmAt.raw {K : PySem.W.Frag} {H : Hp} {ss : List Str} (hs : ∀ s ∈ ss, s.length ≤ 4000) : ∀ {n : Nat} {v : V} {t : Tm}, TmAt K H n v t → Good ss n t → RwAt K H n v t.raw
  | 0, _, _, h, _ => h.elim
  | n + 1, v, .ev s, h, g => by
    obtain ⟨p, e, z⟩ := h
    rw [Tm.raw]
    refine ⟨Nat.zero_le _, [], ⟨rfl, by show 1 ≤ 2000; decide, fun x hx => ?_, p, e, z⟩, All3.nil⟩
    rw [List.mem_singleton.mp hx]; exact hs s g
  | n + 1, v, .nd k ts, h, g => by
    obtain ⟨xs, h1, h2⟩ := h
    have h3 := g.1.three
    rw [Tm.raw, raws_map]
    have fw : ∀ {v f}, FrB K H v f.1 f.2 40 → FrW K H v f := fun z => ⟨z.fr, Nat.lt_of_lt_of_le z.nB (Nat.pow_le_pow_right (by decide) (by decide)), Nat.lt_of_lt_of_le z.dB (Nat.pow_le_pow_right (by decide) (by decide))⟩
    refine ⟨by rw [List.length_map]; omega, xs, ?_, ?_⟩
    · cases k with
      | delay f => obtain ⟨p, x, fv, e1, e2, z, w⟩ := h1; exact ⟨p, x, fv, e1, e2, z, fw w⟩
      | max => obtain ⟨p, e, z⟩ := h1; exact ⟨by decide +kernel, by decide +kernel, by decide +kernel, p, e, z⟩
      | min => obtain ⟨p, e, z⟩ := h1; exact ⟨by decide +kernel, by decide +kernel, by decide +kernel, p, e, z⟩
      | median => obtain ⟨p, e, z⟩ := h1; exact ⟨by decide +kernel, by decide +kernel, by decide +kernel, p, e, z⟩
      | mix ws =>
        obtain ⟨p, ys, e, z, l1, l2, hm⟩ := h1
        refine ⟨p, ys, e, z, l1, l2, fun i y x f a b c => ?_⟩
        obtain ⟨q, wv, e', h3, h4⟩ := hm i y x f a b c
        exact ⟨q, wv, e', h3, fw h4⟩
    · refine ⟨by rw [List.length_map]; exact h2.1, fun i x t a b => ?_⟩
      rw [List.getElem?_map] at b
      cases e : ts[i]? with
      | none => rw [e] at b; cases b
      | some u =>
        rw [e] at b
        cases b
        exact TmAt.raw hs (h2.2 i x u a e) (g.2 u (List.mem_of_getElem? e))
mutual
theorem raw_size : ∀ t : Tm, t.raw.size = t.size
  | .ev s => by rw [Tm.raw, Rw.size, Rw.sizes, Tm.size]
  | .nd k ts => by rw [Tm.raw, Rw.size, Tm.size, raw_sizes ts]
theorem raw_sizes : ∀ ts : List Tm, Rw.sizes (Tm.raws ts) = Tm.sizes ts
  | [] => by rw [Tm.raws, Rw.sizes, Tm.sizes]
  | t :: ts => by rw [Tm.raws, Rw.sizes, Tm.sizes, raw_size t, raw_sizes ts]
end
theorem sqL_ty {K : PySem.W.Frag} {H : Hp} {a : Addr} {xs : List V} (h : SqT K H a xs) : TyX K H (.ref a) (.type "tuple") := tyT h
theorem absL (i : Int) : decide ((if i < 0 then -i else i) ≤ 999999999999) = decide (i.natAbs ≤ 999999999999) := decide_eq_decide.mpr (by split <;> omega)
theorem fr_eqv (f g : QQ) : PyData.eqv (.tuple [.int f.1, .int f.2]) (.tuple [.int g.1, .int g.2]) = decide (f = g) := by
  simp only [PyData.eqv, PyData.eqvAll, Bool.and_true]
  by_cases h1 : f.1 = g.1
  · by_cases h2 : f.2 = g.2
    · rw [decide_eq_true (Prod.ext h1 h2)]; simp [h1, h2]
    · rw [decide_eq_false (fun z => h2 (by rw [z]))]; simp [h2]
  · rw [decide_eq_false (fun z => h1 (by rw [z]))]; simp [h1]
theorem fracB_low {f : QQ} (h : fracB f = true) : 0 < f.2 ∧ Int.gcd f.1 f.2 = 1 := by
  unfold fracB at h
  rw [Bool.and_eq_true, Bool.and_eq_true, Bool.and_eq_true, decide_eq_true_eq, decide_eq_true_eq, decide_eq_true_eq, decide_eq_true_eq] at h
  obtain ⟨⟨h1, h2, h3⟩, h4⟩ := h
  refine ⟨by omega, ?_⟩
  have g := red_gcd (n := f.1) (d := f.2) (by omega)
  rw [h4] at g
  exact g
theorem fracB_bd {f : QQ} (h : fracB f = true) : f.1.natAbs < 2 ^ 40 ∧ f.2.natAbs < 2 ^ 40 := by
  unfold fracB at h
  rw [Bool.and_eq_true, Bool.and_eq_true, Bool.and_eq_true, decide_eq_true_eq, decide_eq_true_eq, decide_eq_true_eq, decide_eq_true_eq] at h
  obtain ⟨⟨h1, h2, h3⟩, h4⟩ := h
  exact ⟨by omega, by omega⟩
/-- the direct subterms, as a new list -/
def spSubsR (K : PySem.W.Frag) : Sp := fun vs H Q _ => ∃ (v : V) (t : Rw) (n : Nat), vs = [v] ∧ RwAt K H (n + 1) v t ∧ ∀ l H' xs, Same H H' → H l = none → H' l = some (.lst xs) → All3 (RwAt K H' n) xs t.subs → Q (.ref l) H'
theorem in2 (kk : Str) : inV (.str kk) [.str "max", .str "min"] = (decide (kk = "max") || decide (kk = "min")) := by
  have e := in_strs kk ["max", "min"]
  have e' : inV (.str kk) [.str "max", .str "min"] = decide (kk ∈ (["max", "min"] : List Str)) := e
  rw [e']
  by_cases h1 : kk = "max"
  · rw [decide_eq_true h1, Bool.true_or]
    exact decide_eq_true (by rw [h1]; exact List.mem_cons_self)
  · rw [decide_eq_false h1, Bool.false_or]
    refine decide_eq_decide.mpr ⟨fun h => ?_, fun h => by rw [h]; exact List.mem_cons_of_mem _ List.mem_cons_self⟩
    rcases List.mem_cons.mp h with z | z
    · exact absurd z h1
    · exact List.mem_singleton.mp z
def RAr : Nat → Rw → Prop
  | 0, _ => False
  | n + 1, t => t.subs.length ≤ 2000 ∧ ∀ u ∈ t.subs, RAr n u
theorem RwAt.ar {K : PySem.W.Frag} {H : Hp} : ∀ {n : Nat} {v : V} {t : Rw}, RwAt K H n v t → RAr n t
  | 0, _, _, h => h
  | n + 1, v, .mk k ts, h => by
    obtain ⟨l, xs, h1, h2⟩ := h
    refine ⟨l, fun u hu0 => ?_⟩
    have hu : u ∈ ts := hu0
    obtain ⟨i, hi, e⟩ := List.getElem_of_mem hu
    have hu' : ts[i]? = some u := by rw [List.getElem?_eq_getElem hi, e]
    have hx : xs[i]? = some (xs[i]'(by rw [h2.1]; exact hi)) := List.getElem?_eq_getElem _
    exact RwAt.ar (h2.2 i _ u hx hu')
def spSizeR (K : PySem.W.Frag) : Nat → Sp
  | 0 => fun _ _ _ _ => False
  | n + 1 => fun vs H Q _ => ∃ (v : V) (t : Rw), vs = [v] ∧ RwAt K H (n + 1) v t ∧ ∀ H', Same H H' → Q (.int (t.size : Nat)) H'
def spDepthR (K : PySem.W.Frag) : Nat → Sp
  | 0 => fun _ _ _ _ => False
  | n + 1 => fun vs H Q _ => ∃ (v : V) (t : Rw), vs = [v] ∧ RwAt K H (n + 1) v t ∧ ∀ H', Same H H' → Q (.int (t.depth : Nat)) H'
theorem Rw.sizes_eq : ∀ ts : List Rw, Rw.sizes ts = (ts.map Rw.size).sum
  | [] => by rw [Rw.sizes]; rfl
  | t :: ts => by rw [Rw.sizes, Rw.sizes_eq ts, List.map_cons, List.sum_cons]
theorem Rw.depth_eq (t : Rw) : t.depth = 1 + Rw.depths t.subs := by cases t; rw [Rw.depth]; rfl
theorem rdepths_ge : ∀ {ts : List Rw} {u : Rw}, u ∈ ts → u.depth ≤ Rw.depths ts
  | t :: ts, u, h => by
    rw [Rw.depths]
    rcases List.mem_cons.mp h with z | z
    · rw [z]; exact Nat.le_max_left _ _
    · exact Nat.le_trans (rdepths_ge z) (Nat.le_max_right _ _)
theorem rdepths_in : ∀ {ts : List Rw}, ts ≠ [] → ∃ u ∈ ts, Rw.depths ts = u.depth
  | [], h => absurd rfl h
  | t :: ts, _ => by
    rw [Rw.depths]
    by_cases q : ts = []
    · subst q
      exact ⟨t, List.mem_cons_self, by rw [Rw.depths]; exact Nat.max_eq_left (Nat.zero_le _)⟩
    · obtain ⟨u, hu, e⟩ := rdepths_in q
      by_cases c : Rw.depths ts ≤ t.depth
      · exact ⟨t, List.mem_cons_self, Nat.max_eq_left c⟩
      · exact ⟨u, List.mem_cons_of_mem _ hu, by rw [← e]; exact Nat.max_eq_right (by omega)⟩
theorem rdepths_max {ts : List Rw} {m : Int} (hm : m ∈ ts.map (fun u => (u.depth : Int))) (hk : ∀ k ∈ ts.map (fun u => (u.depth : Int)), k ≤ m) : (Rw.depths ts : Int) = m := by
  obtain ⟨u, hu, rfl⟩ := List.mem_map.mp hm
  have h1 := rdepths_ge hu
  obtain ⟨v, hv, e⟩ := rdepths_in (ts := ts) (fun z => by rw [z] at hu; cases hu)
  have h2 := hk _ (List.mem_map.mpr ⟨v, hv, rfl⟩)
  have h2' : (v.depth : Int) ≤ (u.depth : Int) := h2
  omega
def spIsT (K : PySem.W.Frag) : Nat → Sp
  | 0 => fun _ _ _ _ => False
  | n + 1 => fun vs H Q _ => ∃ (v : V) (t : Rw) (d m : Nat), vs = [v, .int (d : Nat)] ∧ d ≤ n ∧ d < m ∧ RwAt K H m v t ∧ ∀ H', Same H H' → Q (.bl (isT d t)) H'
def Rk.nm : Rk → Str
  | .ev _ => "event" | .dl _ => "delay" | .mx _ => "mix" | .nn k => k
/-- the items behind the name, and the subterms among them -/
def RRest (K : PySem.W.Frag) (H : Hp) : Rk → List V → List V → Prop
  | .ev ss, ys, xs => xs = [] ∧ ss.length ≤ 2000 ∧ (∀ s ∈ ss, s.length ≤ 4000) ∧ ys = ss.map V.str
  | .dl none, ys, xs => ∃ x, xs = [x] ∧ ys = [x]
  | .dl (some f), ys, xs => ∃ x fv, xs = [x] ∧ ys = [x, fv] ∧ FrW K H fv f
  | .mx ws, ys, xs => ys.length = xs.length ∧ ws.length = xs.length ∧ ∀ (i : Nat) y x f, ys[i]? = some y → xs[i]? = some x → ws[i]? = some f → ∃ q wv, y = .ref q ∧ SqT K H q [wv, x] ∧ FrW K H wv f
  | .nn k, ys, xs => k ≠ "event" ∧ k ≠ "delay" ∧ k ≠ "mix" ∧ ys = xs
theorem RNode.nm {K : PySem.W.Frag} {H : Hp} {v : V} {k : Rk} {xs : List V} (h : RNode K H v k xs) : ∃ p ys, v = .ref p ∧ SqT K H p (.str k.nm :: ys) ∧ RRest K H k ys xs := by
  match k, h with
  | .ev ss, ⟨a, b, c, p, e, z⟩ => exact ⟨p, _, e, z, a, b, c, rfl⟩
  | .dl none, ⟨p, x, e1, e2, z⟩ => exact ⟨p, _, e2, z, x, e1, rfl⟩
  | .dl (some f), ⟨p, x, fv, e1, e2, z, w⟩ => exact ⟨p, _, e2, z, x, fv, e1, rfl, w⟩
  | .mx ws, ⟨p, ys, e, z, h⟩ => exact ⟨p, ys, e, z, h⟩
  | .nn k, ⟨a, b, c, p, e, z⟩ => exact ⟨p, _, e, z, a, b, c, rfl⟩
theorem RRest.nd {K : PySem.W.Frag} {H : Hp} {p : Addr} {k : Rk} {ys xs : List V} (h : RRest K H k ys xs) (z : SqT K H p (.str k.nm :: ys)) : RNode K H (.ref p) k xs := by
  match k, h with
  | .ev ss, ⟨a, b, c, e⟩ => subst e; exact ⟨a, b, c, p, rfl, z⟩
  | .dl none, ⟨x, e1, e⟩ => subst e; exact ⟨p, x, e1, rfl, z⟩
  | .dl (some f), ⟨x, fv, e1, e, w⟩ => subst e; exact ⟨p, x, fv, e1, rfl, z, w⟩
  | .mx ws, h => exact ⟨p, ys, rfl, z, h⟩
  | .nn k, ⟨a, b, c, e⟩ => subst e; exact ⟨a, b, c, p, rfl, z⟩
theorem form_nil {K : PySem.W.Frag} {H : Hp} {k : Rk} {xs : List V} (h : RRest K H k [] xs) : formK k xs.length = false := by
  match k, h with
  | .ev [], _ => rfl
  | .ev (s :: ss), ⟨_, _, _, e⟩ => cases e
  | .dl none, ⟨x, e1, e⟩ => cases e
  | .dl (some f), ⟨x, fv, e1, e, w⟩ => cases e
  | .mx ws, ⟨l1, l2, _⟩ => rw [← l1]; rfl
  | .nn k, ⟨_, _, _, e⟩ =>
    subst e
    show (if k = "median" then decide (0 = 3) else (decide (k = "max") || decide (k = "min")) && (decide (1 ≤ 0) && decide (0 ≤ 6))) = false
    split
    · rfl
    · exact Bool.and_false _
def kinds : List Str := ["event", "delay", "max", "min", "median", "mix"]
theorem form_kind {k : Rk} {n : Nat} (h : k.nm ∉ kinds) : formK k n = false := by
  match k with
  | .ev _ => exact absurd List.mem_cons_self h
  | .dl _ => exact absurd (List.mem_cons_of_mem _ List.mem_cons_self) h
  | .mx _ => exact absurd (by decide +kernel : ("mix" : Str) ∈ kinds) h
  | .nn k =>
    have h1 : k ≠ "median" := fun e => h (by rw [e]; exact (by decide +kernel : ("median" : Str) ∈ kinds))
    have h2 : k ≠ "max" := fun e => h (by rw [e]; exact (by decide +kernel : ("max" : Str) ∈ kinds))
    have h3 : k ≠ "min" := fun e => h (by rw [e]; exact (by decide +kernel : ("min" : Str) ∈ kinds))
    show (if k = "median" then _ else _) = false
    rw [if_neg h1, decide_eq_false h2, decide_eq_false h3]
    rfl
theorem go_ifS {c : TT} {t u : TS} {D : Ends} {σ : L2.St} {H : Hp} (b : Bool) (H1 : Hp) (step : ∀ Q : Bool → Hp → Prop, Q b H1 → c σ H Q) (h : if b = true then t D σ H1 else u D σ H1) : tIfS c t u D σ H := step _ h
def wB (f : QQ) : Bool := fracB f && decide (0 < f.1)
def mixB (ws : List QQ) : Bool := (ws.all fun w => fracB w && decide (0 < w.1)) && decide (ws.foldl radd (0, 1) = (1, 1))
/-! ### ways into a term -/
def at? : Rw → List Nat → Option Rw
  | t, [] => some t
  | t, i :: is => t.subs[i]?.bind fun u => at? u is
def VI (is : List Nat) : List V := is.map fun (i : Nat) => V.int ((i : Nat) : Int)
/-- a tuple of the way ns, and behind it a way of t -/
def WayAt (K : PySem.W.Frag) (H : Hp) (t : Rw) (ns : List Nat) (x : V) : Prop := ∃ p is u, x = .ref p ∧ SqT K H p (VI (ns ++ is)) ∧ at? t is = some u
theorem WayAt.same {K : PySem.W.Frag} {H H' : Hp} {t : Rw} {ns : List Nat} {x : V} (h : WayAt K H t ns x) (s : Same H H') : WayAt K H' t ns x := by
  obtain ⟨p, is, u, e, z, a⟩ := h
  exact ⟨p, is, u, e, Same.T s z, a⟩
theorem WayAt.sub {K : PySem.W.Frag} {H : Hp} {t u : Rw} {i : Nat} {ns : List Nat} {x : V} (h : WayAt K H u (ns ++ [i]) x) (e : t.subs[i]? = some u) : WayAt K H t ns x := by
  obtain ⟨p, is, u', e', z, a⟩ := h
  exact ⟨p, i :: is, u', e', by rw [List.append_assoc] at z; exact z, by rw [at?, e]; exact a⟩
def spPaths (K : PySem.W.Frag) : Nat → Sp
  | 0 => fun _ _ _ _ => False
  | n + 1 => fun vs H Q _ => ∃ (v : V) (t : Rw) (q : Addr) (ns : List Nat), vs = [v, .ref q] ∧ RwAt K H (n + 1) v t ∧ SqT K H q (VI ns) ∧ ns.length + n ≤ 100 ∧ t.size ≤ 50000 ∧ ∀ l H' xs, Same H H' → H' l = some (.lst xs) → xs.length = t.size → (∀ x ∈ xs, WayAt K H' t ns x) → Q (.ref l) H'
theorem sizes_take : ∀ (ts : List Rw) (i : Nat) (u : Rw), ts[i]? = some u → Rw.sizes (ts.take (i + 1)) = Rw.sizes (ts.take i) + u.size
  | [], i, u, h => by cases h
  | t :: ts, 0, u, h => by cases h; rw [List.take_succ_cons, List.take_zero, List.take_zero, Rw.sizes, Rw.sizes, Rw.sizes]; omega
  | t :: ts, i + 1, u, h => by
    rw [List.take_succ_cons, List.take_succ_cons, Rw.sizes, Rw.sizes, sizes_take ts i u h]
    omega
theorem sizes_take_le (ts : List Rw) (i : Nat) : Rw.sizes (ts.take i) ≤ Rw.sizes ts := by
  have h := Rw.sizes_app (ts.take i) (ts.drop i)
  rw [List.take_append_drop] at h
  omega
theorem All3.get {R : V → Rw → Prop} {xs : List V} {ts : List Rw} (h : All3 R xs ts) {i : Nat} {t : Rw} (ht : ts[i]? = some t) : ∃ x, xs[i]? = some x ∧ R x t := by
  have l : i < xs.length := by rw [h.1]; exact (List.getElem?_eq_some_iff.mp ht).1
  exact ⟨xs[i], List.getElem?_eq_getElem l, h.2 i _ t (List.getElem?_eq_getElem l) ht⟩
theorem cat_way {K : PySem.W.Frag} {H : Hp} {Q : VK} {a b : Addr} {xs ys : List V} (ha : SqT K H a xs) (hb : SqT K H b ys) (hz : xs.length + ys.length ≤ sizeLine) (w : ∀ p H', Same H H' → SqT K H' p (xs ++ ys) → Q (.ref p) H') : rCatA K (.ref a) (.ref b) H Q := by
  refine ⟨a, b, xs, ys, rfl, rfl, ha, hb, hz, fun e => w b H (Same.refl H) (by rw [e]; exact hb), fun _ e => w a H (Same.refl H) (by rw [e, List.append_nil]; exact ha), fun _ _ p np => w p _ (Same.new np) (SqT.of upd_same)⟩
theorem at0 {α : Type} {xs : List α} {i : Nat} {x : α} (h : xs[i]? = some x) : atI xs (0 + (i : Int)) = some x := by rw [show (0 : Int) + (i : Int) = (i : Int) by omega]; exact atI_nat h
/-- replaced at a way: some term, whose size is bounded -/
def spReplace (K : PySem.W.Frag) : Nat → Sp
  | 0 => fun _ _ _ _ => False
  | n + 1 => fun vs H Q _ => ∃ (v : V) (t u : Rw) (q : Addr) (ns : List Nat) (o : V) (ot : Rw) (m : Nat), vs = [v, .ref q, o] ∧ RwAt K H (n + 1) v t ∧ SqT K H q (VI ns) ∧ at? t ns = some u ∧ RwAt K H m o ot ∧ ∀ x H' t', Same H H' → RwAt K H' (n + m) x t' → t'.size ≤ t.size + ot.size → Q x H'
def VD (is : List Nat) : List PyData := is.map fun (i : Nat) => PyData.int ((i : Nat) : Int)
theorem VD_lay : ∀ is : List Nat, PyData.canLayAll0 (VD is) = true
  | [] => by simp [VD, PyData.canLayAll0]
  | i :: is => by
    have := VD_lay is
    unfold VD at this ⊢
    rw [List.map_cons, PyData.canLayAll0, this]
    simp [PyData.canLay0]
theorem VD_depth : ∀ is : List Nat, PyData.depthAll (VD is) = 0
  | [] => by simp [VD, PyData.depthAll]
  | i :: is => by
    have := VD_depth is
    unfold VD at this ⊢
    rw [List.map_cons, PyData.depthAll, this]
    simp [PyData.depth]
theorem VD_shaped (is : List Nat) : SeqAt.shaped (.tuple (VD is)) = true := by
  unfold SeqAt.shaped
  rw [PyData.canLay0, VD_lay, PyData.depth, VD_depth]
  rfl
theorem VD_all {K : PySem.W.Frag} {H : Hp} : ∀ is : List Nat, DpAll K H (VI is) (VD is)
  | [] => .nil
  | i :: is => .cons (.int _) (VD_all is)
theorem at_cons {t u : Rw} {i : Nat} {is : List Nat} (h : at? t (i :: is) = some u) : ∃ t1, t.subs[i]? = some t1 ∧ at? t1 is = some u := by
  rw [at?] at h
  cases e : t.subs[i]? with
  | none => rw [e] at h; cases h
  | some t1 => rw [e] at h; exact ⟨t1, rfl, h⟩
theorem sizes_set : ∀ (ts : List Rw) (i : Nat) (u v : Rw), ts[i]? = some u → Rw.sizes (ts.set i v) + u.size = Rw.sizes ts + v.size
  | [], i, u, v, h => by cases h
  | t :: ts, 0, u, v, h => by cases h; rw [List.set_cons_zero, Rw.sizes, Rw.sizes]; omega
  | t :: ts, i + 1, u, v, h => by
    have := sizes_set ts i u v h
    rw [List.set_cons_succ, Rw.sizes, Rw.sizes]
    omega
theorem All3.set {R : V → Rw → Prop} {xs : List V} {ts : List Rw} (h : All3 R xs ts) (i : Nat) {x : V} {t : Rw} (k : R x t) : All3 R (xs.set i x) (ts.set i t) := by
  refine ⟨by rw [List.length_set, List.length_set]; exact h.1, fun j y u a b => ?_⟩
  rw [List.getElem?_set] at a b
  by_cases e : i = j
  · rw [if_pos e] at a b
    split at a
    · cases a
      split at b
      · cases b; exact k
      · cases b
    · cases a
  · rw [if_neg e] at a b
    exact h.2 j y u a b
/-- what stands at i in the tuple: the subterm itself, or a pair -/
def Slot (K : PySem.W.Frag) (H : Hp) (i : Nat) (val fr : V) : Rk → Prop
  | .mx ws => ∃ tp wv f, val = .ref tp ∧ SqT K H tp [wv, fr] ∧ ws[i]? = some f ∧ FrW K H wv f
  | _ => val = fr
theorem RRest.set {K : PySem.W.Frag} {H : Hp} {k : Rk} {ys xs : List V} {i : Nat} {val fr : V} (h : RRest K H k ys xs) (hi : i < xs.length) (hs : Slot K H i val fr k) : RRest K H k (ys.set i val) (xs.set i fr) := by
  match k, h, hs with
  | .ev ss, ⟨a, _⟩, _ => subst a; exact absurd hi (Nat.not_lt_zero _)
  | .dl none, ⟨x, e1, e2⟩, hs =>
    subst e1 e2
    have : i = 0 := by have : i < 1 := hi; omega
    subst this
    have hs' : val = fr := hs
    subst hs'
    exact ⟨val, rfl, rfl⟩
  | .dl (some f), ⟨x, fv, e1, e2, hf⟩, hs =>
    subst e1 e2
    have : i = 0 := by have : i < 1 := hi; omega
    subst this
    have hs' : val = fr := hs
    subst hs'
    exact ⟨val, fv, rfl, rfl, hf⟩
  | .mx ws, ⟨l1, l2, hm⟩, ⟨tp, wv, f, e, ht, hw, hf⟩ =>
    refine ⟨by rw [List.length_set, List.length_set]; exact l1, by rw [List.length_set]; exact l2, fun j y x g a b c => ?_⟩
    rw [List.getElem?_set] at a b
    by_cases q : i = j
    · subst q
      rw [if_pos rfl] at a b
      rw [if_pos (by omega)] at a b
      rw [hw] at c
      cases a
      cases b
      cases c
      exact ⟨tp, wv, e, ht, hf⟩
    · rw [if_neg q] at a b
      exact hm j y x g a b c
  | .nn k, ⟨n1, n2, n3, e⟩, hs =>
    have hs' : val = fr := hs
    subst e hs'
    exact ⟨n1, n2, n3, rfl⟩
theorem RRest.imp {K : PySem.W.Frag} {H H' : Hp} (sT : ∀ p xs, SqT K H p xs → SqT K H' p xs) {k : Rk} {ys xs : List V} (h : RRest K H k ys xs) : RRest K H' k ys xs := by
  match k, h with
  | .ev ss, h => exact h
  | .dl none, h => exact h
  | .dl (some f), ⟨x, fv, e1, e2, w⟩ => exact ⟨x, fv, e1, e2, w.imp sT⟩
  | .mx ws, ⟨l1, l2, h⟩ =>
    refine ⟨l1, l2, fun i y x f a b c => ?_⟩
    obtain ⟨q, wv, e', h3, h4⟩ := h i y x f a b c
    exact ⟨q, wv, e', sT _ _ h3, h4.imp sT⟩
  | .nn k, h => exact h
theorem RRest.len {K : PySem.W.Frag} {H : Hp} {k : Rk} {ys xs : List V} (h : RRest K H k ys xs) : xs.length ≤ ys.length := by
  match k, h with
  | .ev ss, ⟨a, _⟩ => rw [a]; exact Nat.zero_le _
  | .dl none, ⟨x, e1, e2⟩ => rw [e1, e2]; exact Nat.le_refl _
  | .dl (some f), ⟨x, fv, e1, e2, _⟩ => rw [e1, e2]; exact Nat.le_succ _
  | .mx ws, ⟨l1, _⟩ => rw [l1]; exact Nat.le_refl _
  | .nn k, ⟨_, _, _, e⟩ => rw [e]; exact Nat.le_refl _
theorem ixN_succ {n j : Nat} (h : j < n) : ixN (n + 1) (1 + (j : Int)) = some (j + 1) := by
  unfold ixN
  rw [if_pos (by omega), if_pos (by omega), show (1 + (j : Int)).toNat = j + 1 by omega]
theorem at1 {α : Type} {x y : α} {xs : List α} {i : Nat} (h : xs[i]? = some x) : atI (y :: xs) (1 + (i : Int)) = some x := by rw [show (1 : Int) + (i : Int) = ((i + 1 : Nat) : Int) by omega]; exact atI_nat h
theorem sizes_at : ∀ {ts : List Rw} {i : Nat} {u : Rw}, ts[i]? = some u → u.size ≤ Rw.sizes ts
  | [], i, u, h => by cases h
  | t :: ts, 0, u, h => by cases h; rw [Rw.sizes]; omega
  | t :: ts, i + 1, u, h => by have := sizes_at (ts := ts) h; rw [Rw.sizes]; omega
theorem at_size : ∀ {is : List Nat} {t u : Rw}, at? t is = some u → u.size ≤ t.size
  | [], t, u, h => by rw [at?] at h; cases h; exact Nat.le_refl _
  | i :: is, t, u, h => by
    obtain ⟨t1, h1, h2⟩ := at_cons h
    have := at_size h2
    have := sizes_at h1
    rw [t.size_eq]
    omega
theorem RwAt.low {K : PySem.W.Frag} {H : Hp} : ∀ {d n : Nat} {v : V} {t : Rw}, RwAt K H n v t → isT d t = true → RwAt K H d v t
  | 0, _, _, _, _, h => by cases h
  | d + 1, 0, _, _, h, _ => h.elim
  | d + 1, n + 1, v, .mk k ts, ⟨l, xs, h1, h2⟩, h => by
    have h' : (formK k ts.length && ts.all (isT d)) = true := h
    rw [Bool.and_eq_true] at h'
    exact ⟨l, xs, h1, h2.1, fun i x t a b => RwAt.low (h2.2 i x t a b) (List.all_eq_true.mp h'.2 t (List.mem_of_getElem? b))⟩
section
variable {K : PySem.W.Frag} {H H' : Hp} {p : Addr} {m : Nat} {x : V} {u : Rw}
theorem mkEv {ss : List Str} (l1 : ss.length ≤ 2000) (l2 : ∀ s ∈ ss, s.length ≤ 4000) (z : SqT K H p (.str "event" :: ss.map V.str)) : RwAt K H (m + 1) (.ref p) (.mk (.ev ss) []) := ⟨Nat.zero_le _, [], ⟨rfl, l1, l2, p, rfl, z⟩, All3.nil⟩
theorem mkDl {fv : V} {f : QQ} (z : SqT K H p [.str "delay", x, fv]) (hf : FrW K H fv f) (h : RwAt K H m x u) : RwAt K H (m + 1) (.ref p) (.mk (.dl (some f)) [u]) := ⟨by show 1 ≤ 2000; decide, [x], ⟨p, x, fv, rfl, rfl, z, hf⟩, All3.one h⟩
theorem mkD0 (z : SqT K H p [.str "delay", x]) (h : RwAt K H m x u) : RwAt K H (m + 1) (.ref p) (.mk (.dl none) [u]) := ⟨by show 1 ≤ 2000; decide, [x], ⟨p, x, rfl, rfl, z⟩, All3.one h⟩
theorem mkMx {q1 q2 : Addr} {w1 w2 : V} {f1 f2 : QQ} (z : SqT K H p [.str "mix", .ref q1, .ref q2]) (z1 : SqT K H q1 [w1, x]) (z2 : SqT K H q2 [w2, x]) (h1 : FrW K H w1 f1) (h2 : FrW K H w2 f2) (h : RwAt K H m x u) : RwAt K H (m + 1) (.ref p) (.mk (.mx [f1, f2]) [u, u]) := by
  refine ⟨by show 2 ≤ 2000; decide, [x, x], ⟨p, [.ref q1, .ref q2], rfl, z, rfl, rfl, fun i y x' f a b c => ?_⟩, All3.cons h (All3.one h)⟩
  match i, a, b, c with
  | 0, a, b, c => cases a; cases b; cases c; exact ⟨q1, w1, rfl, z1, h1⟩
  | 1, a, b, c => cases a; cases b; cases c; exact ⟨q2, w2, rfl, z2, h2⟩
theorem mkM0 (z : SqT K H p [.str "mix"]) : RwAt K H (m + 1) (.ref p) (.mk (.mx []) []) := ⟨Nat.zero_le _, [], ⟨p, [], rfl, z, rfl, rfl, fun i y x' f a b c => by cases a⟩, All3.nil⟩
theorem mkNn {k : Str} {xs : List V} {ts : List Rw} (n1 : k ≠ "event") (n2 : k ≠ "delay") (n3 : k ≠ "mix") (l : ts.length ≤ 2000) (z : SqT K H p (.str k :: xs)) (h : All3 (RwAt K H m) xs ts) : RwAt K H (m + 1) (.ref p) (.mk (.nn k) ts) := ⟨l, xs, ⟨n1, n2, n3, p, rfl, z⟩, h⟩
/-- some term, not deeper than m, of at most B parts -/
def Ok (K : PySem.W.Frag) (H : Hp) (m B : Nat) (x : V) : Prop := ∃ t, RwAt K H m x t ∧ t.size ≤ B
theorem Ok.same {B : Nat} (h : Ok K H m B x) (s : Same H H') : Ok K H' m B x := by
  obtain ⟨t, a, b⟩ := h
  exact ⟨t, a.same s, b⟩
theorem Ok.kp {B : Nat} {r : Addr} (R : Rg H r) (k : Kp r H H') (h : Ok K H m B x) : Ok K H' m B x := by
  obtain ⟨t, a, b⟩ := h
  exact ⟨t, a.kp R k, b⟩
theorem Ok.le {B m' B' : Nat} (h : Ok K H m B x) (l : m ≤ m') (l2 : B ≤ B') : Ok K H m' B' x := by
  obtain ⟨t, a, b⟩ := h
  exact ⟨t, a.le l, Nat.le_trans b l2⟩
theorem Ok.snoc {B : Nat} {l : List V} {y : V} (h : ∀ z ∈ l, Ok K H m B z) (s : Same H H') (k : Ok K H' m B y) : ∀ z ∈ l ++ [y], Ok K H' m B z := fun z hz => by
  rcases List.mem_append.mp hz with q | q
  · exact (h z q).same s
  · rw [List.mem_singleton.mp q]; exact k
end
theorem go_if3 {c : TT} {b rest : TS} {D : Ends} {σ : L2.St} {H : Hp} (J : L2.St → Hp → Prop) (main : ∀ σ' H', J σ' H' → rest D σ' H') (step : ∀ D' : Ends, (∀ σ' H', J σ' H' → D'.nx σ' H') → tIfS c b tNext D' σ H) : tSeq (tIfS c b tNext) rest D σ H := step _ main
theorem mkFr {K : PySem.W.Frag} {H : Hp} {p : Addr} {a b : Int} (z : SqT K H p [.int a, .int b]) (ha : a.natAbs < 2 ^ 120) (hb : b.natAbs < 2 ^ 120) : FrW K H (.ref p) (a, b) := ⟨⟨p, rfl, z⟩, ha, hb⟩
theorem sz1 (k : Rk) (u : Rw) : (Rw.mk k [u]).size = 1 + u.size := by rw [Rw.size, Rw.sizes, Rw.sizes]; omega
theorem sz2 (k : Rk) (u v : Rw) : (Rw.mk k [u, v]).size = 1 + u.size + v.size := by rw [Rw.size, Rw.sizes, Rw.sizes, Rw.sizes]; omega
theorem sz0 (k : Rk) : (Rw.mk k []).size = 1 := by rw [Rw.size, Rw.sizes]
theorem Ok.none {K : PySem.W.Frag} {H : Hp} {m B : Nat} : ∀ z ∈ ([] : List V), Ok K H m B z := fun z hz => by cases hz
theorem all_snoc {P P' : V → Prop} {l : List V} {y : V} (h : ∀ z ∈ l, P z) (s : ∀ z, P z → P' z) (k : P' y) : ∀ z ∈ l ++ [y], P' z := fun z hz => by
  rcases List.mem_append.mp hz with q | q
  · exact s z (h z q)
  · rw [List.mem_singleton.mp q]; exact k
def FOk (K : PySem.W.Frag) (H : Hp) (v : V) : Prop := ∃ f, FrW K H v f
theorem FOk.same {K : PySem.W.Frag} {H H' : Hp} (s : Same H H') (v : V) (h : FOk K H v) : FOk K H' v := ⟨h.choose, h.choose_spec.same s⟩
theorem FrW.kp {K : PySem.W.Frag} {H H' : Hp} {r : Addr} {v : V} {f : QQ} (R : Rg H r) (k : Kp r H H') (h : FrW K H v f) : FrW K H' v f := h.imp fun _ _ z => RgT R k z
theorem sizes_rep (u : Rw) : ∀ n, Rw.sizes (List.replicate n u) = n * u.size
  | 0 => by rw [List.replicate_zero, Rw.sizes, Nat.zero_mul]
  | n + 1 => by rw [List.replicate_succ, Rw.sizes, sizes_rep u n, Nat.add_mul]; omega
theorem sqN {K : PySem.W.Frag} {H : Hp} {p : Addr} {xs : List V} (_ : H p = none) : SqT K (upd H p (.tup xs)) p xs := SqT.of upd_same
/-! ### texts of terms -/
def dlyL (f : QQ) : List Nat := if f.1 < 0 then [32, 45, 32] ++ fmtL (-f.1, f.2) else [32, 43, 32] ++ fmtL f
def txtK : Rk → List (List Nat) → List Nat
  | .ev ss, _ => (ss.map TL.tl).flatten
  | .dl none, xs => xs.flatten
  | .dl (some f), xs => xs.flatten ++ dlyL f
  | .mx ws, xs => [109, 105, 120] ++ 40 :: (TL.joinL [44, 32] (List.zipWith (fun w x => fmtL w ++ 32 :: x) ws xs) ++ [41])
  | .nn k, xs => TL.tl k ++ 40 :: (TL.joinL [44, 32] xs ++ [41])
mutual
def Rw.txt : Rw → List Nat
  | .mk k ts => txtK k (Rw.txts ts)
def Rw.txts : List Rw → List (List Nat)
  | [] => []
  | t :: ts => t.txt :: Rw.txts ts
end
theorem txts_map : ∀ ts : List Rw, Rw.txts ts = ts.map Rw.txt
  | [] => by rw [Rw.txts]; rfl
  | t :: ts => by rw [Rw.txts, txts_map ts]; rfl
theorem Rw.txt_eq (k : Rk) (ts : List Rw) : (Rw.mk k ts).txt = txtK k (ts.map Rw.txt) := by rw [Rw.txt, txts_map]
/-! ### read: the program's way -/
def frS (c : Nat) : Bool := dig c || decide (c = 47)
def rdFr (l : List Nat) : Option (QQ × List Nat) := match progP (l.takeWhile frS) with
  | none => none
  | some f => some (f, l.dropWhile frS)
def skipL (w l : List Nat) : Option (List Nat) := if l.take w.length = w then some (l.drop w.length) else none
def rdDl : Nat → Rw → List Nat → Option (Rw × List Nat)
  | 0, t, l => some (t, l)
  | n + 1, t, l => if l.take 3 = [32, 43, 32] then (match rdFr (l.drop 3) with
      | none => none
      | some (f, r) => rdDl n (.mk (.dl (some (1 * f.1, f.2))) [t]) r)
    else if l.take 3 = [32, 45, 32] then (match rdFr (l.drop 3) with
      | none => none
      | some (f, r) => rdDl n (.mk (.dl (some (-1 * f.1, f.2))) [t]) r)
    else some (t, l)
abbrev Rd := List Nat → Option (Rw × List Nat)
def rdOp (rd : Rd) (m : Bool) (l : List Nat) : Option ((QQ × Rw) × List Nat) :=
  if m = true then (match rdFr l with
    | none => none
    | some (w, r) => (match skipL [32] r with
      | none => none
      | some r1 => (match rd r1 with
        | none => none
        | some (t, r2) => some ((w, t), r2))))
  else (match rd l with
    | none => none
    | some (t, r) => some (((0, 1), t), r))
def rdMore (rd : Rd) (m : Bool) : Nat → List (QQ × Rw) → List Nat → Option (List (QQ × Rw) × List Nat)
  | 0, acc, l => some (acc, l)
  | n + 1, acc, l => if l.take 1 = [44] then (match skipL [44, 32] l with
      | none => none
      | some r => (match rdOp rd m r with
        | none => none
        | some (o, r2) => rdMore rd m n (acc ++ [o]) r2))
    else some (acc, l)
def mixL : List Nat := [109, 105, 120]
def isMix (k : List Nat) : Bool := decide (k = mixL)
def mkT (k : List Nat) (os : List (QQ × Rw)) : Rw := if isMix k = true then .mk (.mx (os.map (·.1))) (os.map (·.2)) else .mk (.nn (SX.S k)) (os.map (·.2))
def rdOps (rd : Rd) (k : List Nat) (l : List Nat) : Option (Rw × List Nat) := match skipL [40] l with
  | none => none
  | some r => (match rdOp rd (isMix k) r with
    | none => none
    | some (o, r1) => (match rdMore rd (isMix k) r1.length [o] r1 with
      | none => none
      | some (os, r2) => (match skipL [41] r2 with
        | none => none
        | some r3 => some (mkT k os, r3))))
def isKw (w : List Nat) : Bool := inV (.str (SX.S w)) kws4
def rdT : Nat → Rd
  | 0, _ => none
  | n + 1, l => if isKw (l.takeWhile lowB) = true then (match rdOps (rdT n) (l.takeWhile lowB) (l.dropWhile lowB) with
      | none => none
      | some (t, r) => rdDl r.length t r)
    else rdDl (l.dropWhile lowB).length (.mk (.ev [SX.S (l.takeWhile lowB)]) []) (l.dropWhile lowB)
def okT (t : Rw) : Bool := isT 10 t && decide (t.size ≤ 40)
def parseT (l : List Nat) : Option Rw := match rdT 10 l with
  | none => none
  | some (t, r) => if (r.isEmpty && okT t) = true then (if t.txt = l then some t else none) else none
/-! ### the canonical text is read back -/
theorem tw_all {p : Nat → Bool} : ∀ {w tail : List Nat}, (∀ c ∈ w, p c = true) → (∀ c r, tail = c :: r → p c = false) → (w ++ tail).takeWhile p = w ∧ (w ++ tail).dropWhile p = tail
  | [], [], _, _ => ⟨rfl, rfl⟩
  | [], c :: r, _, h => by
    have e := h c r rfl
    rw [List.nil_append, List.takeWhile_cons, List.dropWhile_cons, e]
    exact ⟨rfl, rfl⟩
  | d :: w, tail, h, k => by
    obtain ⟨e1, e2⟩ := tw_all (w := w) (tail := tail) (fun c hc => h c (List.mem_cons_of_mem _ hc)) k
    have e := h d List.mem_cons_self
    rw [List.cons_append, List.takeWhile_cons, List.dropWhile_cons, e, e2]
    simp only [if_true]
    exact ⟨by rw [e1], trivial⟩
/-- what may follow a term -/
def Tail (l : List Nat) : Prop := ∀ c r, l = c :: r → c = 32 ∨ c = 44 ∨ c = 41
theorem Tail.low {l : List Nat} (h : Tail l) : ∀ c r, l = c :: r → lowB c = false := fun c r e => by
  rcases h c r e with rfl | rfl | rfl <;> rfl
theorem Tail.fr {l : List Nat} (h : Tail l) : ∀ c r, l = c :: r → frS c = false := fun c r e => by
  rcases h c r e with rfl | rfl | rfl <;> rfl
theorem numL_dig (n : Nat) : ∀ c ∈ TL.numL n, dig c = true := fun c hc => dig_iff.mpr (TL.numL_digits n c hc)
theorem fmt_frS {f : QQ} (h : 0 ≤ f.1) (hd : 0 < f.2) : ∀ c ∈ fmtL f, frS c = true := by
  have n1 : ∀ i : Int, 0 ≤ i → ∀ c ∈ sgnL i, frS c = true := fun i hi c hc => by
    unfold sgnL at hc
    rw [if_neg (by omega)] at hc
    unfold frS
    rw [numL_dig _ c hc]
    rfl
  intro c hc
  unfold fmtL at hc
  split at hc
  · exact n1 _ h c hc
  · rcases List.mem_append.mp hc with z | z
    · exact n1 _ h c z
    · rcases List.mem_cons.mp z with y | y
      · rw [y]; rfl
      · exact n1 _ (by omega) c y
structure Fin (f : QQ) : Prop where
  low : Low f
  n1 : f.1.natAbs < 10 ^ 30
  n2 : f.2.natAbs < 10 ^ 30
theorem fin_of {f : QQ} (h : fracB f = true) : Fin f := by
  have l := fracB_low h
  unfold fracB at h
  rw [Bool.and_eq_true, Bool.and_eq_true, Bool.and_eq_true, decide_eq_true_eq, decide_eq_true_eq, decide_eq_true_eq, decide_eq_true_eq] at h
  obtain ⟨⟨h1, h2, h3⟩, _⟩ := h
  exact ⟨l, by omega, by omega⟩
theorem rdFr_fmt {f : QQ} (F : Fin f) (h : 0 ≤ f.1) {tail : List Nat} (ht : ∀ c r, tail = c :: r → frS c = false) : rdFr (fmtL f ++ tail) = some (f, tail) := by
  obtain ⟨e1, e2⟩ := tw_all (fmt_frS h F.low.1) ht
  unfold rdFr
  rw [e1, e2, prog_fmt F.low.1 F.low.2 F.n1 F.n2]
theorem rdFr_len {l r : List Nat} {f : QQ} (h : rdFr l = some (f, r)) : r.length ≤ l.length := by
  unfold rdFr at h
  split at h
  · cases h
  · cases h
    have e := List.takeWhile_append_dropWhile (p := frS) (l := l)
    have := congrArg List.length e
    rw [List.length_append] at this
    omega
/-- enough fuel -/
theorem rdDl_fuel : ∀ {n m : Nat} {t : Rw} {l : List Nat}, l.length ≤ n → l.length ≤ m → rdDl n t l = rdDl m t l
  | 0, 0, _, _, _, _ => rfl
  | 0, m + 1, t, l, h, _ => by
    have e : l = [] := List.length_eq_zero_iff.mp (by omega)
    subst e
    rfl
  | n + 1, 0, t, l, _, h => by
    have e : l = [] := List.length_eq_zero_iff.mp (by omega)
    subst e
    rfl
  | n + 1, m + 1, t, l, h1, h2 => by
    rw [rdDl, rdDl]
    have key : ∀ g : QQ → QQ, l.take 3 ≠ [] → (match rdFr (l.drop 3) with | none => none | some (f, r) => rdDl n (.mk (.dl (some (g f))) [t]) r) = (match rdFr (l.drop 3) with | none => none | some (f, r) => rdDl m (.mk (.dl (some (g f))) [t]) r) := fun g ne => by
      cases e : rdFr (l.drop 3) with
      | none => rfl
      | some fr =>
        obtain ⟨f, r⟩ := fr
        have k := rdFr_len e
        rw [List.length_drop] at k
        have l0 : 0 < l.length := by
          rcases l with _ | ⟨c, l⟩
          · exact absurd rfl ne
          · exact Nat.succ_pos _
        exact rdDl_fuel (by omega) (by omega)
    by_cases c1 : l.take 3 = [32, 43, 32]
    · rw [if_pos c1, if_pos c1]
      exact key (fun f => (1 * f.1, f.2)) (by rw [c1]; exact List.cons_ne_nil _ _)
    · rw [if_neg c1, if_neg c1]
      by_cases c2 : l.take 3 = [32, 45, 32]
      · rw [if_pos c2, if_pos c2]
        exact key (fun f => (-1 * f.1, f.2)) (by rw [c2]; exact List.cons_ne_nil _ _)
      · rw [if_neg c2, if_neg c2]
theorem dly_tail (f : QQ) (l : List Nat) : Tail (dlyL f ++ l) := fun c r e => by
  unfold dlyL at e
  split at e <;> (rw [List.cons_append] at e; cases e; exact .inl rfl)
theorem rdDl_step {f : QQ} (F : Fin f) {t : Rw} {tail : List Nat} (ht : Tail tail) : rdDl (dlyL f ++ tail).length t (dlyL f ++ tail) = rdDl tail.length (.mk (.dl (some f)) [t]) tail := by
  obtain ⟨k, hk⟩ : ∃ k, (dlyL f ++ tail).length = k + 1 := by
    refine ⟨(dlyL f ++ tail).length - 1, ?_⟩
    have : 0 < (dlyL f ++ tail).length := by
      unfold dlyL
      split <;> (rw [List.cons_append]; exact Nat.succ_pos _)
    omega
  have lk : tail.length ≤ k := by
    have : (dlyL f ++ tail).length = (dlyL f).length + tail.length := List.length_append ..
    have : 0 < (dlyL f).length := by
      unfold dlyL
      split <;> exact Nat.succ_pos _
    omega
  rw [hk, rdDl]
  by_cases h : f.1 < 0
  · have e : dlyL f = [32, 45, 32] ++ fmtL (-f.1, f.2) := if_pos h
    have F' : Fin (-f.1, f.2) := ⟨⟨F.low.1, by rw [Int.neg_gcd]; exact F.low.2⟩, by show (-f.1).natAbs < _; rw [Int.natAbs_neg]; exact F.n1, F.n2⟩
    have r := rdFr_fmt F' (by show 0 ≤ -f.1; omega) ht.fr
    rw [e, List.append_assoc]
    rw [if_neg (by intro z; cases z), if_pos (show List.take 3 ([32, 45, 32] ++ (fmtL (-f.1, f.2) ++ tail)) = [32, 45, 32] from rfl)]
    show (match rdFr (fmtL (-f.1, f.2) ++ tail) with | none => none | some (f, r) => rdDl k (.mk (.dl (some (-1 * f.1, f.2))) [t]) r) = _
    rw [r]
    show rdDl k (.mk (.dl (some (-1 * -f.1, f.2))) [t]) tail = _
    rw [show -1 * -f.1 = f.1 by omega]
    exact rdDl_fuel lk (Nat.le_refl _)
  · have e : dlyL f = [32, 43, 32] ++ fmtL f := if_neg h
    have r := rdFr_fmt F (by omega) ht.fr
    rw [e, List.append_assoc]
    rw [if_pos (show List.take 3 ([32, 43, 32] ++ (fmtL f ++ tail)) = [32, 43, 32] from rfl)]
    show (match rdFr (fmtL f ++ tail) with | none => none | some (f, r) => rdDl k (.mk (.dl (some (1 * f.1, f.2))) [t]) r) = _
    rw [r]
    show rdDl k (.mk (.dl (some (1 * f.1, f.2))) [t]) tail = _
    rw [show 1 * f.1 = f.1 by omega]
    exact rdDl_fuel lk (Nat.le_refl _)
/-- the end of an operand -/
def Stop (l : List Nat) : Prop := ∀ c r, l = c :: r → c = 44 ∨ c = 41
theorem Stop.tail {l : List Nat} (h : Stop l) : Tail l := fun c r e => .inr (h c r e)
theorem rdDl_stop {t : Rw} {l : List Nat} (h : Stop l) : rdDl l.length t l = some (t, l) := by
  cases l with
  | nil => rfl
  | cons c r =>
    rw [List.length_cons, rdDl]
    rcases h c r rfl with rfl | rfl
    · rw [if_neg (by intro z; cases z), if_neg (by intro z; cases z)]
    · rw [if_neg (by intro z; cases z), if_neg (by intro z; cases z)]
theorem skipL_app (w l : List Nat) : skipL w (w ++ l) = some l := by
  unfold skipL
  rw [if_pos List.take_left, List.drop_left]
/-- operands: the text of one, what reading makes of it -/
def opL (m : Bool) (o : QQ × Rw) : List Nat := if m = true then fmtL o.1 ++ 32 :: o.2.txt else o.2.txt
theorem joinL_cons (S p : List Nat) (q : List (List Nat)) (h : q ≠ []) : TL.joinL S (p :: q) = p ++ (S ++ TL.joinL S q) := by
  cases q with
  | nil => exact absurd rfl h
  | cons x r => rfl
theorem rdMore_all {rd : Rd} {m : Bool} : ∀ {os acc : List (QQ × Rw)} {n : Nat} {tail : List Nat}, (∀ o ∈ os, ∀ l, Stop l → rdOp rd m (opL m o ++ l) = some (o, l)) → os.length ≤ n → rdMore rd m n acc ((os.map fun o => [44, 32] ++ opL m o).flatten ++ 41 :: tail) = some (acc ++ os, 41 :: tail)
  | [], acc, n, tail, _, _ => by
    rw [List.append_nil]
    cases n with
    | zero => rfl
    | succ n =>
      show rdMore rd m (n + 1) acc (41 :: tail) = _
      rw [rdMore, if_neg (by intro z; cases z)]
  | o :: os, acc, 0, tail, _, h => absurd h (Nat.not_succ_le_zero _)
  | o :: os, acc, n + 1, tail, hk, h => by
    have st : Stop ((os.map fun o => [44, 32] ++ opL m o).flatten ++ 41 :: tail) := fun c r e => by
      cases os with
      | nil => cases e; exact .inr rfl
      | cons p os => cases e; exact .inl rfl
    have e : ((o :: os).map fun o => [44, 32] ++ opL m o).flatten ++ 41 :: tail = [44, 32] ++ (opL m o ++ ((os.map fun o => [44, 32] ++ opL m o).flatten ++ 41 :: tail)) := by
      rw [List.map_cons, List.flatten_cons, List.append_assoc, List.append_assoc]
    rw [e, rdMore, if_pos (show List.take 1 ([44, 32] ++ _) = [44] from rfl), skipL_app]
    show (match rdOp rd m (opL m o ++ _) with | none => none | some (o, r2) => rdMore rd m n (acc ++ [o]) r2) = _
    rw [hk o List.mem_cons_self _ st]
    show rdMore rd m n (acc ++ [o]) _ = _
    rw [rdMore_all (fun p hp => hk p (List.mem_cons_of_mem _ hp)) (Nat.le_of_succ_le_succ h), List.append_assoc]
    rfl
theorem join_flat (m : Bool) (o : QQ × Rw) : ∀ os : List (QQ × Rw), TL.joinL [44, 32] ((o :: os).map (opL m)) = opL m o ++ (os.map fun o => [44, 32] ++ opL m o).flatten
  | [] => by show opL m o = _; rw [List.map_nil, List.flatten_nil, List.append_nil]
  | p :: os => by
    have ih := join_flat m p os
    show opL m o ++ ([44, 32] ++ TL.joinL [44, 32] ((p :: os).map (opL m))) = _
    rw [ih, List.map_cons, List.flatten_cons, List.append_assoc]
theorem flat_len (m : Bool) : ∀ os : List (QQ × Rw), os.length ≤ (os.map fun o => [44, 32] ++ opL m o).flatten.length
  | [] => Nat.zero_le _
  | o :: os => by
    have := flat_len m os
    rw [List.map_cons, List.flatten_cons, List.length_append, List.length_append, List.length_cons]
    show os.length + 1 ≤ 2 + _ + _
    omega
theorem rdOps_all {rd : Rd} {k : List Nat} {o : QQ × Rw} {os : List (QQ × Rw)} {tail : List Nat} (hk : ∀ p ∈ o :: os, ∀ l, Stop l → rdOp rd (isMix k) (opL (isMix k) p ++ l) = some (p, l)) : rdOps rd k (40 :: (TL.joinL [44, 32] ((o :: os).map (opL (isMix k))) ++ 41 :: tail)) = some (mkT k (o :: os), tail) := by
  have st : Stop ((os.map fun o => [44, 32] ++ opL (isMix k) o).flatten ++ 41 :: tail) := fun c r e => by
    cases os with
    | nil => cases e; exact .inr rfl
    | cons p os => cases e; exact .inl rfl
  have lk := flat_len (isMix k) os
  rw [join_flat, List.append_assoc]
  unfold rdOps
  have e1 := skipL_app [40] (opL (isMix k) o ++ ((os.map fun o => [44, 32] ++ opL (isMix k) o).flatten ++ 41 :: tail))
  have e1' : skipL [40] (40 :: (opL (isMix k) o ++ ((os.map fun o => [44, 32] ++ opL (isMix k) o).flatten ++ 41 :: tail))) = some _ := e1
  rw [e1']
  dsimp only
  rw [hk o List.mem_cons_self _ st]
  dsimp only
  rw [rdMore_all (fun p hp => hk p (List.mem_cons_of_mem _ hp)) (by rw [List.length_append]; omega)]
  dsimp only
  have e2 := skipL_app [41] tail
  have e2' : skipL [41] (41 :: tail) = some tail := e2
  rw [e2']
  rfl
theorem low_all {s : Str} (h : nameB s = true) : (∀ c ∈ TL.tl s, lowB c = true) ∧ isKw (TL.tl s) = false := by
  unfold nameB at h
  rw [Bool.and_eq_true, Bool.and_eq_true, Bool.and_eq_true] at h
  obtain ⟨_, h1, h2⟩ := h
  refine ⟨fun c hc => List.all_eq_true.mp h1 c hc, ?_⟩
  unfold isKw
  rw [SX.S_tl]
  cases z : inV (.str s) kws4 with
  | false => rfl
  | true => rw [z] at h2; cases h2
theorem kw_low {k : List Nat} (h : k = TL.tl "max" ∨ k = TL.tl "min" ∨ k = TL.tl "median" ∨ k = mixL) : (∀ c ∈ k, lowB c = true) ∧ isKw k = true := by
  rcases h with rfl | rfl | rfl | rfl
  · exact ⟨by decide +kernel, by decide +kernel⟩
  · exact ⟨by decide +kernel, by decide +kernel⟩
  · exact ⟨by decide +kernel, by decide +kernel⟩
  · exact ⟨by decide +kernel, by decide +kernel⟩
theorem zip_opL : ∀ (ws : List QQ) (ts : List Rw), List.zipWith (fun w x => fmtL w ++ 32 :: x) ws (ts.map Rw.txt) = (ws.zip ts).map (opL true)
  | [], _ => by rw [List.zipWith_nil_left, List.zip_nil_left, List.map_nil]
  | _ :: _, [] => rfl
  | w :: ws, t :: ts => by
    rw [List.map_cons, List.zipWith_cons_cons, List.zip_cons_cons, List.map_cons, zip_opL ws ts]
    rfl
theorem sizes_mem : ∀ {ts : List Rw} {u : Rw}, u ∈ ts → u.size ≤ Rw.sizes ts
  | t :: ts, u, h => by
    rw [Rw.sizes]
    rcases List.mem_cons.mp h with z | z
    · rw [z]; omega
    · have := sizes_mem z; omega
/-- as many operands as the kind says -/
def shK : Rk → Nat → Prop
  | .ev _, m => m = 0 | .dl _, m => m = 1 | .mx ws, m => ws.length = m | .nn _, _ => True
def Arw : Nat → Rw → Prop
  | 0, _ => False
  | n + 1, .mk k ts => shK k ts.length ∧ ∀ u ∈ ts, Arw n u
theorem Arw.up : ∀ {n : Nat} {t : Rw}, Arw n t → Arw (n + 1) t
  | 0, _, h => h.elim
  | n + 1, .mk k ts, h => ⟨h.1, fun u hu => (h.2 u hu).up⟩
theorem isT.up : ∀ {n : Nat} {t : Rw}, isT n t = true → isT (n + 1) t = true
  | 0, _, h => by cases h
  | n + 1, .mk k ts, h => by
    have h' : ((Rw.mk k ts).form && ts.all (isT n)) = true := h
    show ((Rw.mk k ts).form && ts.all (isT (n + 1))) = true
    rw [Bool.and_eq_true] at h' ⊢
    exact ⟨h'.1, List.all_eq_true.mpr fun u hu => (isT.up (List.all_eq_true.mp h'.2 u hu))⟩
theorem RwAt.arw {K : PySem.W.Frag} {H : Hp} : ∀ {n : Nat} {v : V} {t : Rw}, RwAt K H n v t → Arw n t
  | 0, _, _, h => h
  | n + 1, v, .mk k ts, ⟨l, xs, h1, h2⟩ => by
    refine ⟨?_, fun u hu => ?_⟩
    · rw [← h2.1]
      match k, h1 with
      | .ev ss, ⟨e, _⟩ => rw [e]; rfl
      | .dl none, ⟨p, x, e, _⟩ => rw [e]; rfl
      | .dl (some f), ⟨p, x, fv, e, _⟩ => rw [e]; rfl
      | .mx ws, ⟨p, ys, e, z, l1, l2, _⟩ => exact l2
      | .nn k, _ => trivial
    · obtain ⟨i, hi, e⟩ := List.getElem_of_mem hu
      have hx : xs[i]? = some (xs[i]'(by rw [h2.1]; exact hi)) := List.getElem?_eq_getElem _
      exact RwAt.arw (h2.2 i _ u hx (by rw [List.getElem?_eq_getElem hi, e]))
theorem one_mem {t u : Rw} {k : Rk} {ts : List Rw} (e : t = .mk k ts) (hu : u ∈ ts) : u.size + 1 ≤ t.size := by
  rw [e, Rw.size]
  have := sizes_mem hu
  omega
theorem rdT_txt : ∀ (b : Nat) {t : Rw} {n : Nat} {tail : List Nat}, t.size ≤ b → isT n t = true → Arw n t → Tail tail → rdT n (t.txt ++ tail) = rdDl tail.length t tail
  | 0, .mk k ts, n, tail, hb, _, _, _ => by rw [Rw.size] at hb; omega
  | b + 1, t, 0, tail, _, h, _, _ => by cases h
  | b + 1, .mk k ts, n + 1, tail, hb, h, ha, ht => by
    have h' : ((Rw.mk k ts).form && ts.all (isT n)) = true := h
    rw [Bool.and_eq_true] at h'
    obtain ⟨hf, hs⟩ := h'
    have hs := List.all_eq_true.mp hs
    have sub : ∀ u ∈ ts, u.size ≤ b := fun u hu => by
      have := one_mem rfl hu (t := .mk k ts) (k := k)
      omega
    rw [Rw.txt_eq]
    match k, hf, ha, hb with
    | .ev ss, hf, ha, hb =>
      have e0 : ts = [] := List.length_eq_zero_iff.mp ha.1
      subst e0
      have hf' : evB ss = true := hf
      match ss, hf' with
      | [s], hf' =>
        have hn : nameB s = true := hf'
        obtain ⟨lw, kw⟩ := low_all hn
        obtain ⟨e1, e2⟩ := tw_all lw ht.low
        show rdT (n + 1) (([s].map TL.tl).flatten ++ tail) = _
        rw [show ([s].map TL.tl).flatten = TL.tl s by simp, rdT, e1, e2, if_neg (by rw [kw]; exact Bool.false_ne_true), SX.S_tl]
    | .dl none, hf, ha, hb => cases hf
    | .dl (some f), hf, ha, hb =>
      have hf' : fracB f = true := hf
      obtain ⟨u, rfl⟩ := List.length_eq_one_iff.mp ha.1
      have hu : u ∈ [u] := List.mem_singleton.mpr rfl
      show rdT (n + 1) (([u].map Rw.txt).flatten ++ dlyL f ++ tail) = _
      rw [show ([u].map Rw.txt).flatten = u.txt by simp, List.append_assoc, rdT_txt b (sub u hu) (isT.up (hs u hu)) (ha.2 u hu).up (dly_tail f tail), rdDl_step (fin_of hf') ht]
    | .mx ws, hf, ha, hb =>
      have hl : ws.length = ts.length := ha.1
      have hf' : ((decide (1 ≤ ts.length) && decide (ts.length ≤ 6)) && ((ws.all fun w => fracB w && decide (0 < w.1)) && decide (ws.foldl radd (0, 1) = (1, 1)))) = true := hf
      rw [Bool.and_eq_true, Bool.and_eq_true, Bool.and_eq_true, decide_eq_true_eq] at hf'
      obtain ⟨⟨m1, _⟩, hw, _⟩ := hf'
      have hw := List.all_eq_true.mp hw
      obtain ⟨lw, kw⟩ := kw_low (k := mixL) (.inr (.inr (.inr rfl)))
      show rdT (n + 1) ([109, 105, 120] ++ 40 :: (TL.joinL [44, 32] (List.zipWith (fun w x => fmtL w ++ 32 :: x) ws (ts.map Rw.txt)) ++ [41]) ++ tail) = _
      rw [zip_opL, List.append_assoc]
      show rdT (n + 1) (mixL ++ 40 :: ((TL.joinL [44, 32] ((ws.zip ts).map (opL true)) ++ [41]) ++ tail)) = _
      rw [List.append_assoc]
      obtain ⟨e1, e2⟩ := tw_all (p := lowB) (w := mixL) (tail := 40 :: (TL.joinL [44, 32] ((ws.zip ts).map (opL true)) ++ ([41] ++ tail))) lw (fun c r e => by cases e; rfl)
      rw [rdT, e1, e2, if_pos kw]
      have z1 : (ws.zip ts).map (·.1) = ws := List.map_fst_zip (by omega)
      have z2 : (ws.zip ts).map (·.2) = ts := List.map_snd_zip (by omega)
      cases hz : ws.zip ts with
      | nil => rw [hz] at z2; rw [← z2] at m1; exact absurd m1 (by simp)
      | cons o os =>
        have st : ∀ l, Stop l → Stop l := fun _ h => h
        have all := rdOps_all (rd := rdT n) (k := mixL) (o := o) (os := os) (tail := tail) fun p hp l hl => by
          have hp' : p ∈ ws.zip ts := by rw [hz]; exact hp
          have hp'' : (p.1, p.2) ∈ ws.zip ts := hp'
          obtain ⟨p1, p2⟩ := List.of_mem_zip hp''
          have hwp := hw _ p1
          rw [Bool.and_eq_true, decide_eq_true_eq] at hwp
          have im : isMix mixL = true := by decide
          rw [im]
          show rdOp (rdT n) true (fmtL p.1 ++ 32 :: p.2.txt ++ l) = _
          unfold rdOp
          rw [if_pos rfl, List.append_assoc, rdFr_fmt (fin_of hwp.1) (by omega) (tail := 32 :: p.2.txt ++ l) (fun c r e => by cases e; rfl)]
          dsimp only
          have e3 : skipL [32] (32 :: p.2.txt ++ l) = some (p.2.txt ++ l) := skipL_app [32] (p.2.txt ++ l)
          rw [e3]
          dsimp only
          rw [rdT_txt b (sub _ p2) (hs _ p2) (ha.2 _ p2) hl.tail, rdDl_stop hl]
        have im : isMix mixL = true := by decide
        rw [im] at all
        have all' : rdOps (rdT n) mixL (40 :: (TL.joinL [44, 32] ((o :: os).map (opL true)) ++ ([41] ++ tail))) = some (mkT mixL (o :: os), tail) := all
        rw [all']
        have e4 : mkT mixL (o :: os) = .mk (.mx ws) ts := by
          unfold mkT
          rw [im, if_pos rfl, ← hz, z1, z2]
        rw [e4]
    | .nn k, hf, ha, hb =>
      have hf' : (if k = "median" then decide (ts.length = 3) else (decide (k = "max") || decide (k = "min")) && (decide (1 ≤ ts.length) && decide (ts.length ≤ 6))) = true := hf
      have m1 : 1 ≤ ts.length ∧ (k = "max" ∨ k = "min" ∨ k = "median") := by
        by_cases c : k = "median"
        · rw [if_pos c, decide_eq_true_eq] at hf'
          exact ⟨by omega, .inr (.inr c)⟩
        · rw [if_neg c, Bool.and_eq_true, Bool.and_eq_true, Bool.or_eq_true, decide_eq_true_eq, decide_eq_true_eq, decide_eq_true_eq] at hf'
          exact ⟨hf'.2.1, hf'.1.elim .inl fun z => .inr (.inl z)⟩
      obtain ⟨m1, hk⟩ := m1
      obtain ⟨lw, kw⟩ := kw_low (k := TL.tl k) (by rcases hk with rfl | rfl | rfl <;> simp)
      have im : isMix (TL.tl k) = false := by rcases hk with rfl | rfl | rfl <;> decide +kernel
      show rdT (n + 1) (TL.tl k ++ 40 :: (TL.joinL [44, 32] (ts.map Rw.txt) ++ [41]) ++ tail) = _
      rw [List.append_assoc]
      show rdT (n + 1) (TL.tl k ++ 40 :: ((TL.joinL [44, 32] (ts.map Rw.txt) ++ [41]) ++ tail)) = _
      rw [List.append_assoc]
      obtain ⟨e1, e2⟩ := tw_all (p := lowB) (w := TL.tl k) (tail := 40 :: (TL.joinL [44, 32] (ts.map Rw.txt) ++ ([41] ++ tail))) lw (fun c r e => by cases e; rfl)
      rw [rdT, e1, e2, if_pos kw]
      have em : ts.map Rw.txt = (ts.map fun t => (((0, 1) : QQ), t)).map (opL false) := by
        rw [List.map_map]
        exact List.map_congr_left fun t _ => rfl
      cases ts with
      | nil => exact absurd m1 (by simp)
      | cons t ts =>
        have all := rdOps_all (rd := rdT n) (k := TL.tl k) (o := ((0, 1), t)) (os := ts.map fun t => ((0, 1), t)) (tail := tail) fun p hp l hl => by
          have hp' : ∃ u ∈ t :: ts, p = ((0, 1), u) := by
            rcases List.mem_cons.mp hp with z | z
            · exact ⟨t, List.mem_cons_self, z⟩
            · obtain ⟨u, hu, e⟩ := List.mem_map.mp z
              exact ⟨u, List.mem_cons_of_mem _ hu, e.symm⟩
          obtain ⟨u, hu, rfl⟩ := hp'
          rw [im]
          show rdOp (rdT n) false (u.txt ++ l) = _
          unfold rdOp
          rw [if_neg Bool.false_ne_true, rdT_txt b (sub _ hu) (hs _ hu) (ha.2 _ hu) hl.tail, rdDl_stop hl]
        rw [im] at all
        rw [em]
        have all' : rdOps (rdT n) (TL.tl k) (40 :: (TL.joinL [44, 32] (((t :: ts).map fun t => (((0, 1) : QQ), t)).map (opL false)) ++ ([41] ++ tail))) = some (mkT (TL.tl k) ((t :: ts).map fun t => ((0, 1), t)), tail) := all
        rw [all']
        have e4 : mkT (TL.tl k) ((t :: ts).map fun t => ((0, 1), t)) = .mk (.nn k) (t :: ts) := by
          unfold mkT
          rw [im, if_neg Bool.false_ne_true, SX.S_tl, List.map_map]
          congr 1
          exact List.map_id _
        rw [e4]
theorem parse_txt {t : Rw} {n : Nat} (ha : Arw n t) (hn : n ≤ 10) (h : okT t = true) : parseT t.txt = some t := by
  have up : ∀ k, n + k ≤ 10 → Arw (n + k) t := fun k => by
    induction k with
    | zero => exact fun _ => ha
    | succ k ih => exact fun z => (ih (by omega)).up
  have h10 : Arw 10 t := by
    have := up (10 - n) (by omega)
    rw [show n + (10 - n) = 10 by omega] at this
    exact this
  have h' := h
  unfold okT at h'
  rw [Bool.and_eq_true] at h'
  have e := rdT_txt t.size (tail := []) (Nat.le_refl _) h'.1 h10 (fun c r z => by cases z)
  rw [List.append_nil] at e
  unfold parseT
  rw [e]
  show (if (([] : List Nat).isEmpty && okT t) = true then (if t.txt = t.txt then some t else none) else none) = some t
  rw [h, if_pos rfl]
  exact if_pos rfl
theorem parse_sound {l : List Nat} {t : Rw} (h : parseT l = some t) : okT t = true ∧ t.txt = l := by
  unfold parseT at h
  split at h
  · cases h
  · rename_i t' r e
    split at h
    · rename_i z
      rw [Bool.and_eq_true] at z
      split at h
      · rename_i y
        cases h
        exact ⟨z.2, y⟩
      · cases h
    · cases h
/-! ### lengths -/
theorem joinL_len {B : Nat} (m : Bool) : ∀ os : List (QQ × Rw), (∀ o ∈ os, (opL m o).length + 2 ≤ B * o.2.size) → (TL.joinL [44, 32] (os.map (opL m))).length ≤ B * Rw.sizes (os.map (·.2))
  | [], _ => Nat.zero_le _
  | [o], h => by
    have := h o List.mem_cons_self
    show (opL m o).length ≤ B * Rw.sizes [o.2]
    rw [Rw.sizes, Rw.sizes, Nat.add_zero]
    omega
  | o :: p :: os, h => by
    have h1 := h o List.mem_cons_self
    have h2 := joinL_len m (p :: os) fun q hq => h q (List.mem_cons_of_mem _ hq)
    show (opL m o ++ ([44, 32] ++ TL.joinL [44, 32] ((p :: os).map (opL m)))).length ≤ B * Rw.sizes (o.2 :: (p :: os).map (·.2))
    rw [Rw.sizes, List.length_append, List.length_append, Nat.mul_add]
    show _ + (2 + _) ≤ _
    omega
theorem map_op (ts : List Rw) : ts.map Rw.txt = (ts.map fun t => (((0, 1) : QQ), t)).map (opL false) := by
  rw [List.map_map]
  exact List.map_congr_left fun t _ => rfl
theorem map_op2 (ts : List Rw) : (ts.map fun t => (((0, 1) : QQ), t)).map (·.2) = ts := by
  rw [List.map_map]
  exact List.map_id _
theorem fin_len {f : QQ} (F : Fin f) : (fmtL f).length ≤ 63 := fmtL_len F.n1 F.n2
theorem dly_len {f : QQ} (F : Fin f) : (dlyL f).length ≤ 66 := by
  unfold dlyL
  split
  · have := fmtL_len (n := -f.1) (d := f.2) (by rw [Int.natAbs_neg]; exact F.n1) F.n2
    rw [List.length_append]
    show 3 + _ ≤ _
    omega
  · have := fin_len F
    rw [List.length_append]
    show 3 + _ ≤ _
    omega
theorem num12 {n : Int} (h : n.natAbs ≤ 999999999999) : (sgnL n).length ≤ 13 := by
  have := TL.numL_len (n := n.natAbs) (k := 12) (by decide) (by omega)
  unfold sgnL
  split
  · rw [List.length_cons]; omega
  · omega
theorem fmt12 {f : QQ} (h : fracB f = true) : (fmtL f).length ≤ 27 ∧ (fmtL (-f.1, f.2)).length ≤ 27 := by
  unfold fracB at h
  rw [Bool.and_eq_true, Bool.and_eq_true, Bool.and_eq_true, decide_eq_true_eq, decide_eq_true_eq, decide_eq_true_eq, decide_eq_true_eq] at h
  obtain ⟨⟨h1, h2, h3⟩, _⟩ := h
  have key : ∀ a : Int, a.natAbs ≤ 999999999999 → (fmtL (a, f.2)).length ≤ 27 := fun a ha => by
    have := num12 ha
    have := num12 (n := f.2) (by omega)
    unfold fmtL
    split
    · show (sgnL a).length ≤ _; omega
    · show (sgnL a ++ 47 :: sgnL f.2).length ≤ _
      rw [List.length_append, List.length_cons]; omega
  exact ⟨key f.1 h1, key (-f.1) (by rw [Int.natAbs_neg]; exact h1)⟩
theorem dly12 {f : QQ} (h : fracB f = true) : (dlyL f).length ≤ 30 := by
  obtain ⟨a, b⟩ := fmt12 h
  unfold dlyL
  split
  · rw [List.length_append]; show 3 + _ ≤ _; omega
  · rw [List.length_append]; show 3 + _ ≤ _; omega
theorem txt_bd : ∀ {n : Nat} {t : Rw}, isT n t = true → Arw n t → t.txt.length + 40 ≤ 80 * t.size
  | 0, _, h, _ => by cases h
  | n + 1, .mk k ts, h, ha => by
    have h' : ((Rw.mk k ts).form && ts.all (isT n)) = true := h
    rw [Bool.and_eq_true] at h'
    obtain ⟨hf, hs⟩ := h'
    have hs := List.all_eq_true.mp hs
    have ih : ∀ u ∈ ts, u.txt.length + 40 ≤ 80 * u.size := fun u hu => txt_bd (hs u hu) (ha.2 u hu)
    rw [Rw.txt_eq, Rw.size]
    match k, hf, ha with
    | .ev ss, hf, ha =>
      have hf' : evB ss = true := hf
      match ss, hf' with
      | [s], hf' =>
        have hn : nameB s = true := hf'
        unfold nameB at hn
        rw [Bool.and_eq_true, Bool.and_eq_true, decide_eq_true_eq, decide_eq_true_eq] at hn
        show ([s].map TL.tl).flatten.length + 40 ≤ _
        rw [show ([s].map TL.tl).flatten = TL.tl s by simp, ← TL.len_tl]
        omega
    | .dl none, hf, ha => cases hf
    | .dl (some f), hf, ha =>
      have hf' : fracB f = true := hf
      obtain ⟨u, rfl⟩ := List.length_eq_one_iff.mp ha.1
      have := ih u (List.mem_singleton.mpr rfl)
      have := dly12 hf'
      show (([u].map Rw.txt).flatten ++ dlyL f).length + 40 ≤ _
      rw [show ([u].map Rw.txt).flatten = u.txt by simp, List.length_append, Rw.sizes, Rw.sizes]
      omega
    | .mx ws, hf, ha =>
      have hl : ws.length = ts.length := ha.1
      have hf' : ((decide (1 ≤ ts.length) && decide (ts.length ≤ 6)) && ((ws.all fun w => fracB w && decide (0 < w.1)) && decide (ws.foldl radd (0, 1) = (1, 1)))) = true := hf
      rw [Bool.and_eq_true, Bool.and_eq_true, Bool.and_eq_true, decide_eq_true_eq] at hf'
      obtain ⟨_, hw, _⟩ := hf'
      have hw := List.all_eq_true.mp hw
      show ([109, 105, 120] ++ 40 :: (TL.joinL [44, 32] (List.zipWith (fun w x => fmtL w ++ 32 :: x) ws (ts.map Rw.txt)) ++ [41])).length + 40 ≤ _
      rw [zip_opL]
      have j := joinL_len (B := 80) true (ws.zip ts) fun o ho => by
        have ho' : (o.1, o.2) ∈ ws.zip ts := ho
        obtain ⟨p1, p2⟩ := List.of_mem_zip ho'
        have hwp := hw _ p1
        rw [Bool.and_eq_true] at hwp
        have a1 := (fmt12 hwp.1).1
        have a2 := ih _ p2
        show (fmtL o.1 ++ 32 :: o.2.txt).length + 2 ≤ _
        rw [List.length_append, List.length_cons]
        omega
      rw [List.map_snd_zip (by omega)] at j
      rw [List.length_append, show ∀ l : List Nat, (40 :: l).length = l.length + 1 from fun _ => rfl, List.length_append]
      show 3 + (_ + 1 + 1) + 40 ≤ _
      omega
    | .nn k, hf, ha =>
      have hf' : (if k = "median" then decide (ts.length = 3) else (decide (k = "max") || decide (k = "min")) && (decide (1 ≤ ts.length) && decide (ts.length ≤ 6))) = true := hf
      have hk : k = "max" ∨ k = "min" ∨ k = "median" := by
        by_cases c : k = "median"
        · exact .inr (.inr c)
        · rw [if_neg c, Bool.and_eq_true, Bool.or_eq_true, decide_eq_true_eq, decide_eq_true_eq] at hf'
          exact hf'.1.elim .inl fun z => .inr (.inl z)
      have kl : (TL.tl k).length ≤ 6 := by rcases hk with rfl | rfl | rfl <;> decide +kernel
      show (TL.tl k ++ 40 :: (TL.joinL [44, 32] (ts.map Rw.txt) ++ [41])).length + 40 ≤ _
      rw [map_op]
      have j := joinL_len (B := 80) false (ts.map fun t => (((0, 1) : QQ), t)) fun o ho => by
        obtain ⟨u, hu, rfl⟩ := List.mem_map.mp ho
        have a2 := ih _ hu
        show u.txt.length + 2 ≤ 80 * u.size
        omega
      rw [map_op2] at j
      rw [List.length_append, List.length_cons, List.length_append]
      show _ + (_ + 1 + 1) + 40 ≤ _
      omega
def spDly (K : PySem.W.Frag) : Sp := fun vs H Q _ => ∃ (v : V) (f : QQ), vs = [v] ∧ Fr K H v f.1 f.2 ∧ Fin f ∧ ∀ H', Same H H' → Q (.str (SX.S (dlyL f))) H'
theorem Fin.b1 {f : QQ} (F : Fin f) : f.1.natAbs < 2 ^ 1000 := Nat.lt_of_lt_of_le F.n1 (Nat.le_trans (show 10 ^ 30 ≤ 2 ^ 100 by decide) (Nat.pow_le_pow_right (by decide) (by decide)))
theorem Fin.b2 {f : QQ} (F : Fin f) : f.2.natAbs < 2 ^ 1000 := Nat.lt_of_lt_of_le F.n2 (Nat.le_trans (show 10 ^ 30 ≤ 2 ^ 100 by decide) (Nat.pow_le_pow_right (by decide) (by decide)))
theorem Fin.neg {f : QQ} (F : Fin f) : Fin (-f.1, f.2) := ⟨⟨F.low.1, by rw [Int.neg_gcd]; exact F.low.2⟩, by show (-f.1).natAbs < _; rw [Int.natAbs_neg]; exact F.n1, F.n2⟩
theorem S_len' (l : List Nat) : (SX.S l).length = l.length := SX.S_len l
theorem cutN (z : Str) (i j : Nat) : cutS z (some (i : Int)) (some (j : Int)) = SX.S (((TL.tl z).drop i).take (j - i)) := by
  refine TL.ext_tl ?_
  show ((z.cps.toList.drop (HT.sIx z.length 0 (some (i : Int)))).take (HT.sIx z.length z.length (some (j : Int)) - HT.sIx z.length 0 (some (i : Int)))) = ((z.cps.toList.drop i).take (j - i))
  rw [HT.sIx_nat, HT.sIx_nat]
  have hl := cps_len z
  by_cases h : i ≤ z.length
  · rw [Nat.min_eq_left h]
    by_cases h2 : j ≤ z.length
    · rw [Nat.min_eq_left h2]
    · rw [Nat.min_eq_right (by omega), List.take_of_length_le (by rw [List.length_drop]; omega), List.take_of_length_le (by rw [List.length_drop]; omega)]
  · rw [show min i z.length = z.length by omega, List.drop_eq_nil_of_le (by omega), List.drop_eq_nil_of_le (by omega), List.take_nil, List.take_nil]
theorem sum_lens {B : Nat} (m : Bool) : ∀ os : List (QQ × Rw), (∀ o ∈ os, (opL m o).length + 2 ≤ B * o.2.size) → ((os.map fun o => SX.S (opL m o)).map (·.length)).sum + os.length * 2 ≤ B * Rw.sizes (os.map (·.2))
  | [], _ => Nat.zero_le _
  | o :: os, h => by
    have h1 := h o List.mem_cons_self
    have h2 := sum_lens m os fun q hq => h q (List.mem_cons_of_mem _ hq)
    rw [List.map_cons, List.map_cons, List.sum_cons, List.map_cons, Rw.sizes, List.length_cons, S_len', Nat.mul_add]
    omega
theorem comma_S : (", " : Str) = SX.S [44, 32] := TL.ext_tl (by decide +kernel)
theorem open_S : ("(" : Str) = SX.S [40] := TL.ext_tl (by decide +kernel)
theorem close_S : (")" : Str) = SX.S [41] := TL.ext_tl (by decide +kernel)
theorem blank_S : (" " : Str) = SX.S [32] := TL.ext_tl (by decide +kernel)
theorem mix_S : ("mix" : Str) = SX.S [109, 105, 120] := TL.ext_tl (by decide +kernel)
theorem join_ops (m : Bool) (os : List (QQ × Rw)) : Txt.join ", " (os.map fun o => SX.S (opL m o)) = SX.S (TL.joinL [44, 32] (os.map (opL m))) := by
  rw [comma_S, ← SX.join_S, List.map_map]
  rfl
/-- kind + '(' + ', '.join(parts) + ')' -/
theorem end_ops {m : Bool} {os : List (QQ × Rw)} (k : Str) : k ++ ("(" : Str) ++ Txt.join ", " (os.map fun o => SX.S (opL m o)) ++ (")" : Str) = SX.S (TL.tl k ++ 40 :: (TL.joinL [44, 32] (os.map (opL m)) ++ [41])) := by
  rw [join_ops, open_S, close_S]
  refine TL.ext_tl ?_
  rw [TL.tl_append, TL.tl_append, TL.tl_append]
  show ((TL.tl k ++ [40]) ++ _) ++ [41] = _
  rw [List.append_assoc, List.append_assoc]
  rfl
/-- terms that can be written: short names, numbers of at most 30 digits -/
def fmK : Rk → Prop
  | .ev ss => ∃ s, ss = [s] ∧ s.length ≤ 6
  | .dl none => False
  | .dl (some f) => Fin f
  | .mx ws => ∀ w ∈ ws, Fin w
  | .nn k => k.length ≤ 6
def Fm : Nat → Rw → Prop
  | 0, _ => False
  | n + 1, .mk k ts => fmK k ∧ ∀ u ∈ ts, Fm n u
theorem Fm.up : ∀ {n : Nat} {t : Rw}, Fm n t → Fm (n + 1) t
  | 0, _, h => h.elim
  | n + 1, .mk k ts, h => ⟨h.1, fun u hu => (h.2 u hu).up⟩
theorem Fm.le {n m : Nat} (l : n ≤ m) {t : Rw} (h : Fm n t) : Fm m t := by
  induction l with
  | refl => exact h
  | step _ ih => exact ih.up
theorem isT.fm : ∀ {n : Nat} {t : Rw}, isT n t = true → Fm n t
  | 0, _, h => by cases h
  | n + 1, .mk k ts, h => by
    have h' : (formK k ts.length && ts.all (isT n)) = true := h
    rw [Bool.and_eq_true] at h'
    obtain ⟨hf, hs⟩ := h'
    refine ⟨?_, fun u hu => isT.fm (List.all_eq_true.mp hs u hu)⟩
    match k, hf with
    | .ev ss, hf =>
      have hf' : evB ss = true := hf
      match ss, hf' with
      | [s], hf' =>
        have hn : nameB s = true := hf'
        unfold nameB at hn
        rw [Bool.and_eq_true, Bool.and_eq_true, decide_eq_true_eq, decide_eq_true_eq] at hn
        exact ⟨s, rfl, hn.1.2⟩
    | .dl none, hf => cases hf
    | .dl (some f), hf => exact fin_of (show fracB f = true from hf)
    | .mx ws, hf =>
      have hf' : ((decide (1 ≤ ts.length) && decide (ts.length ≤ 6)) && ((ws.all fun w => fracB w && decide (0 < w.1)) && decide (ws.foldl radd (0, 1) = (1, 1)))) = true := hf
      rw [Bool.and_eq_true, Bool.and_eq_true, Bool.and_eq_true] at hf'
      intro w hw
      have := List.all_eq_true.mp hf'.2.1 w hw
      rw [Bool.and_eq_true] at this
      exact fin_of this.1
    | .nn k, hf =>
      have hf' : (if k = "median" then decide (ts.length = 3) else (decide (k = "max") || decide (k = "min")) && (decide (1 ≤ ts.length) && decide (ts.length ≤ 6))) = true := hf
      have hk : k = "max" ∨ k = "min" ∨ k = "median" := by
        by_cases c : k = "median"
        · exact .inr (.inr c)
        · rw [if_neg c, Bool.and_eq_true, Bool.or_eq_true, decide_eq_true_eq, decide_eq_true_eq] at hf'
          exact hf'.1.elim .inl fun z => .inr (.inl z)
      show k.length ≤ 6
      rcases hk with rfl | rfl | rfl <;> decide +kernel
theorem txt_bdF : ∀ {n : Nat} {t : Rw}, Fm n t → Arw n t → t.txt.length + 100 ≤ 200 * t.size
  | 0, _, h, _ => h.elim
  | n + 1, .mk k ts, h, ha => by
    obtain ⟨hf, hs⟩ := h
    have ih : ∀ u ∈ ts, u.txt.length + 100 ≤ 200 * u.size := fun u hu => txt_bdF (hs u hu) (ha.2 u hu)
    rw [Rw.txt_eq, Rw.size]
    match k, hf, ha with
    | .ev ss, ⟨s, es, hl⟩, ha =>
      subst es
      show ([s].map TL.tl).flatten.length + 100 ≤ _
      rw [show ([s].map TL.tl).flatten = TL.tl s by simp, ← TL.len_tl]
      omega
    | .dl none, hf, ha => exact hf.elim
    | .dl (some f), hf, ha =>
      obtain ⟨u, rfl⟩ := List.length_eq_one_iff.mp ha.1
      have := ih u (List.mem_singleton.mpr rfl)
      have := dly_len (show Fin f from hf)
      show (([u].map Rw.txt).flatten ++ dlyL f).length + 100 ≤ _
      rw [show ([u].map Rw.txt).flatten = u.txt by simp, List.length_append, Rw.sizes, Rw.sizes]
      omega
    | .mx ws, hf, ha =>
      have hl : ws.length = ts.length := ha.1
      show ([109, 105, 120] ++ 40 :: (TL.joinL [44, 32] (List.zipWith (fun w x => fmtL w ++ 32 :: x) ws (ts.map Rw.txt)) ++ [41])).length + 100 ≤ _
      rw [zip_opL]
      have j := joinL_len (B := 200) true (ws.zip ts) fun o ho => by
        have ho' : (o.1, o.2) ∈ ws.zip ts := ho
        obtain ⟨p1, p2⟩ := List.of_mem_zip ho'
        have a1 := fin_len (hf _ p1)
        have a2 := ih _ p2
        show (fmtL o.1 ++ 32 :: o.2.txt).length + 2 ≤ _
        rw [List.length_append, List.length_cons]
        omega
      rw [List.map_snd_zip (by omega)] at j
      rw [List.length_append, show ∀ l : List Nat, (40 :: l).length = l.length + 1 from fun _ => rfl, List.length_append]
      show 3 + (_ + 1 + 1) + 100 ≤ _
      omega
    | .nn k, hf, ha =>
      have kl : (TL.tl k).length ≤ 6 := by rw [← TL.len_tl]; exact hf
      show (TL.tl k ++ 40 :: (TL.joinL [44, 32] (ts.map Rw.txt) ++ [41])).length + 100 ≤ _
      rw [map_op]
      have j := joinL_len (B := 200) false (ts.map fun t => (((0, 1) : QQ), t)) fun o ho => by
        obtain ⟨u, hu, rfl⟩ := List.mem_map.mp ho
        have a2 := ih _ hu
        show u.txt.length + 2 ≤ 200 * u.size
        omega
      rw [map_op2] at j
      rw [List.length_append, List.length_cons, List.length_append]
      show _ + (_ + 1 + 1) + 100 ≤ _
      omega
theorem ops_of {ts : List Rw} {n : Nat} (hs : ∀ u ∈ ts, Fm n u) (ha : ∀ u ∈ ts, Arw n u) : ∀ o ∈ ts.map fun t => (((0, 1) : QQ), t), (opL false o).length + 2 ≤ 200 * o.2.size := fun o ho => by
  obtain ⟨u, hu, rfl⟩ := List.mem_map.mp ho
  have := txt_bdF (hs u hu) (ha u hu)
  show u.txt.length + 2 ≤ 200 * u.size
  omega
theorem ops_ofW {ws : List QQ} {ts : List Rw} {n : Nat} (hw : ∀ w ∈ ws, Fin w) (hs : ∀ u ∈ ts, Fm n u) (ha : ∀ u ∈ ts, Arw n u) : ∀ o ∈ ws.zip ts, (opL true o).length + 2 ≤ 200 * o.2.size := fun o ho => by
  have ho' : (o.1, o.2) ∈ ws.zip ts := ho
  obtain ⟨p1, p2⟩ := List.of_mem_zip ho'
  have a1 := fin_len (hw _ p1)
  have a2 := txt_bdF (hs _ p2) (ha _ p2)
  show (fmtL o.1 ++ 32 :: o.2.txt).length + 2 ≤ _
  rw [List.length_append, List.length_cons]
  omega
/-- the text of a term -/
def spFmt (K : PySem.W.Frag) : Nat → Sp
  | 0 => fun _ _ _ _ => False
  | n + 1 => fun vs H Q _ => ∃ (v : V) (t : Rw), vs = [v] ∧ RwAt K H (n + 1) v t ∧ Fm (n + 1) t ∧ t.size ≤ 400 ∧ ∀ H', Same H H' → Q (.str (SX.S t.txt)) H'
theorem frS_eq : (fun c => decide (c ∈ (("0123456789/" : Str)).cps.toList)) = frS := by
  have e : (("0123456789/" : Str)).cps.toList = [48, 49, 50, 51, 52, 53, 54, 55, 56, 57, 47] := by decide +kernel
  funext c
  rw [e]
  unfold frS dig
  by_cases h : 48 ≤ c ∧ c ≤ 57
  · rw [decide_eq_true h.1, decide_eq_true h.2]
    refine decide_eq_true ?_
    simp only [List.mem_cons, List.not_mem_nil, or_false]
    omega
  · by_cases h2 : c = 47
    · subst h2; decide
    · rw [decide_eq_false h2, Bool.or_false]
      have e1 : (decide (48 ≤ c) && decide (c ≤ 57)) = false := by
        rw [Bool.and_eq_false_iff, decide_eq_false_iff_not, decide_eq_false_iff_not]
        omega
      rw [e1]
      refine decide_eq_false ?_
      simp only [List.mem_cons, List.not_mem_nil, or_false]
      omega
theorem lowB_eq : (fun c => decide (c ∈ (("abcdefghijklmnopqrstuvwxyz" : Str)).cps.toList)) = lowB := funext fun _ => abc_mem
theorem tw_drop (p : Nat → Bool) (l : List Nat) : l.drop (l.takeWhile p).length = l.dropWhile p ∧ l.take (l.takeWhile p).length = l.takeWhile p := by
  have e := List.takeWhile_append_dropWhile (p := p) (l := l)
  have d : (l.takeWhile p ++ l.dropWhile p).drop (l.takeWhile p).length = l.dropWhile p := List.drop_left
  have t : (l.takeWhile p ++ l.dropWhile p).take (l.takeWhile p).length = l.takeWhile p := List.take_left
  rw [e] at d t
  exact ⟨d, t⟩
theorem tw_len (p : Nat → Bool) (l : List Nat) : (l.takeWhile p).length ≤ l.length := by
  have e := congrArg List.length (List.takeWhile_append_dropWhile (p := p) (l := l))
  rw [List.length_append] at e
  omega
theorem prog2_bd {l u w : List Nat} {m : Bool} {f : QQ} (h : prog2 l m u w = some f) : f.1.natAbs < 2 ^ 120 ∧ f.2.natAbs < 2 ^ 120 := by
  unfold prog2 at h
  split at h
  · rename_i hd
    rw [Bool.and_eq_true] at hd
    split at h
    · cases h
    · rename_i h0
      split at h
      · cases h
        have vu := val_lt hd.1
        have vw := val_lt hd.2
        have r1 := red_le1 (n := sg m (PySem.NumText.digitsVal u)) (d := ((PySem.NumText.digitsVal w : Nat) : Int)) (by omega)
        have r2 := red_le2 (n := sg m (PySem.NumText.digitsVal u)) (d := ((PySem.NumText.digitsVal w : Nat) : Int)) (by omega)
        have hn : (sg m (PySem.NumText.digitsVal u)).natAbs = PySem.NumText.digitsVal u := by
          unfold sg
          split <;> omega
        have B : (10 : Nat) ^ 30 < 2 ^ 120 := by decide
        constructor <;> omega
      · cases h
  · cases h
theorem prog_bd {l : List Nat} {f : QQ} (h : progP l = some f) : f.1.natAbs < 2 ^ 120 ∧ f.2.natAbs < 2 ^ 120 := by
  unfold progP at h
  split at h
  · exact prog2_bd h
  · exact prog2_bd h
theorem rdFr_bd {l r : List Nat} {f : QQ} (h : rdFr l = some (f, r)) : f.1.natAbs < 2 ^ 120 ∧ f.2.natAbs < 2 ^ 120 := by
  unfold rdFr at h
  split at h
  · cases h
  · rename_i g e
    cases h
    exact prog_bd e
theorem in_pm (l : List Nat) : inV (.str (SX.S l)) [.str " + ", .str " - "] = (decide (l = [32, 43, 32]) || decide (l = [32, 45, 32])) := by
  have e : inV (.str (SX.S l)) [.str " + ", .str " - "] = decide (SX.S l ∈ ([" + ", " - "] : List Str)) := in_strs (SX.S l) [" + ", " - "]
  have p1 : (" + " : Str) = SX.S [32, 43, 32] := TL.ext_tl (by decide +kernel)
  have p2 : (" - " : Str) = SX.S [32, 45, 32] := TL.ext_tl (by decide +kernel)
  rw [e, p1, p2]
  have inj : ∀ x y : List Nat, SX.S x = SX.S y ↔ x = y := fun x y => ⟨fun z => congrArg TL.tl z, fun z => by rw [z]⟩
  by_cases h1 : l = [32, 43, 32]
  · rw [decide_eq_true h1, Bool.true_or]
    exact decide_eq_true (by rw [h1]; exact List.mem_cons_self)
  · rw [decide_eq_false h1, Bool.false_or]
    refine decide_eq_decide.mpr ⟨fun h => ?_, fun h => by rw [h]; exact List.mem_cons_of_mem _ List.mem_cons_self⟩
    rcases List.mem_cons.mp h with z | z
    · exact absurd ((inj _ _).mp z) h1
    · exact (inj _ _).mp (List.mem_singleton.mp z)
/-! ### reading goes forward -/
theorem skipL_len {w l r : List Nat} (h : skipL w l = some r) : r.length + w.length = l.length := by
  unfold skipL at h
  split at h
  · rename_i e
    cases h
    have := congrArg List.length e
    rw [List.length_take] at this
    rw [List.length_drop]
    omega
  · cases h
theorem rdDl_len : ∀ {n : Nat} {t u : Rw} {l r : List Nat}, rdDl n t l = some (u, r) → r.length ≤ l.length
  | 0, t, u, l, r, h => by rw [rdDl] at h; cases h; exact Nat.le_refl _
  | n + 1, t, u, l, r, h => by
    rw [rdDl] at h
    split at h
    · split at h
      · cases h
      · rename_i f r1 e
        have a1 := rdFr_len e
        have a2 := rdDl_len h
        rw [List.length_drop] at a1
        omega
    · split at h
      · split at h
        · cases h
        · rename_i f r1 e
          have a1 := rdFr_len e
          have a2 := rdDl_len h
          rw [List.length_drop] at a1
          omega
      · cases h; exact Nat.le_refl _
def Shr (rd : Rd) : Prop := ∀ l t r, rd l = some (t, r) → r.length ≤ l.length
theorem rdOp_len {rd : Rd} (hs : Shr rd) {m : Bool} {l r : List Nat} {o : QQ × Rw} (h : rdOp rd m l = some (o, r)) : r.length ≤ l.length := by
  unfold rdOp at h
  split at h
  · split at h
    · cases h
    · rename_i f r1 e
      split at h
      · cases h
      · rename_i r2 e2
        split at h
        · cases h
        · rename_i t r3 e3
          cases h
          have := rdFr_len e
          have := skipL_len e2
          have := hs _ _ _ e3
          omega
  · split at h
    · cases h
    · rename_i t r1 e
      cases h
      exact hs _ _ _ e
theorem rdMore_len {rd : Rd} (hs : Shr rd) {m : Bool} : ∀ {n : Nat} {acc os : List (QQ × Rw)} {l r : List Nat}, rdMore rd m n acc l = some (os, r) → r.length ≤ l.length
  | 0, acc, os, l, r, h => by rw [rdMore] at h; cases h; exact Nat.le_refl _
  | n + 1, acc, os, l, r, h => by
    rw [rdMore] at h
    split at h
    · split at h
      · cases h
      · rename_i r1 e1
        split at h
        · cases h
        · rename_i o r2 e2
          have := skipL_len e1
          have := rdOp_len hs e2
          have := rdMore_len hs h
          omega
    · cases h; exact Nat.le_refl _
theorem rdOps_len {rd : Rd} (hs : Shr rd) {k l r : List Nat} {t : Rw} (h : rdOps rd k l = some (t, r)) : r.length ≤ l.length := by
  unfold rdOps at h
  split at h
  · cases h
  · rename_i r1 e1
    split at h
    · cases h
    · rename_i o r2 e2
      split at h
      · cases h
      · rename_i os r3 e3
        split at h
        · cases h
        · rename_i r4 e4
          cases h
          have := skipL_len e1
          have := rdOp_len hs e2
          have := rdMore_len hs e3
          have := skipL_len e4
          omega
theorem rdT_len : ∀ n, Shr (rdT n)
  | 0, _, _, _, h => by cases h
  | n + 1, l, t, r, h => by
    rw [rdT] at h
    have d : (l.dropWhile lowB).length ≤ l.length := by
      have e := congrArg List.length (List.takeWhile_append_dropWhile (p := lowB) (l := l))
      rw [List.length_append] at e
      omega
    split at h
    · split at h
      · cases h
      · rename_i u r1 e
        have := rdOps_len (rdT_len n) e
        have := rdDl_len h
        omega
    · have := rdDl_len h
      omega
theorem rdMore_fuel {rd : Rd} (hs : Shr rd) {m : Bool} : ∀ {n k : Nat} {acc : List (QQ × Rw)} {l : List Nat}, l.length ≤ n → l.length ≤ k → rdMore rd m n acc l = rdMore rd m k acc l
  | 0, 0, _, _, _, _ => rfl
  | 0, k + 1, acc, l, h, _ => by
    have e : l = [] := List.length_eq_zero_iff.mp (by omega)
    subst e
    rfl
  | n + 1, 0, acc, l, _, h => by
    have e : l = [] := List.length_eq_zero_iff.mp (by omega)
    subst e
    rfl
  | n + 1, k + 1, acc, l, h1, h2 => by
    rw [rdMore, rdMore]
    by_cases c : l.take 1 = [44]
    · rw [if_pos c, if_pos c]
      cases e1 : skipL [44, 32] l with
      | none => rfl
      | some r =>
        dsimp only
        cases e2 : rdOp rd m r with
        | none => rfl
        | some or =>
          obtain ⟨o, r2⟩ := or
          have a1 := skipL_len e1
          have a2 := rdOp_len hs e2
          have a3 : ([44, 32] : List Nat).length = 2 := rfl
          exact rdMore_fuel hs (by omega) (by omega)
    · rw [if_neg c, if_neg c]
theorem more_step {rd : Rd} (hs : Shr rd) {m : Bool} {acc : List (QQ × Rw)} {l : List Nat} (c : l.take 1 = [44]) : rdMore rd m l.length acc l = (match skipL [44, 32] l with | none => none | some r => (match rdOp rd m r with | none => none | some (o, r2) => rdMore rd m r2.length (acc ++ [o]) r2)) := by
  obtain ⟨k, hk⟩ : ∃ k, l.length = k + 1 := by
    cases l with
    | nil => cases c
    | cons x l => exact ⟨_, rfl⟩
  rw [hk, rdMore, if_pos c]
  cases e1 : skipL [44, 32] l with
  | none => rfl
  | some r =>
    dsimp only
    cases e2 : rdOp rd m r with
    | none => rfl
    | some or =>
      obtain ⟨o, r2⟩ := or
      have a1 := skipL_len e1
      have a2 := rdOp_len hs e2
      have a3 : ([44, 32] : List Nat).length = 2 := rfl
      exact rdMore_fuel hs (by omega) (Nat.le_refl _)
theorem more_stop {rd : Rd} {m : Bool} {acc : List (QQ × Rw)} {l : List Nat} (c : ¬ l.take 1 = [44]) : rdMore rd m l.length acc l = some (acc, l) := by
  cases l with
  | nil => rfl
  | cons x l => rw [List.length_cons, rdMore, if_neg c]
/-! ### operands in memory -/
def OpAt (K : PySem.W.Frag) (H : Hp) (n : Nat) (m : Bool) (v : V) (o : QQ × Rw) : Prop := if m = true then ∃ q wv x, v = .ref q ∧ SqT K H q [wv, x] ∧ FrW K H wv o.1 ∧ RwAt K H n x o.2 else RwAt K H n v o.2
def OpsAt (K : PySem.W.Frag) (H : Hp) (n : Nat) (m : Bool) : List V → List (QQ × Rw) → Prop
  | [], [] => True
  | x :: xs, o :: os => OpAt K H n m x o ∧ OpsAt K H n m xs os
  | _, _ => False
theorem OpAt.imp {K : PySem.W.Frag} {H H' : Hp} {n k : Nat} {m : Bool} {v : V} {o : QQ × Rw} (sT : ∀ p xs, SqT K H p xs → SqT K H' p xs) (l : n ≤ k) (h : OpAt K H n m v o) : OpAt K H' k m v o := by
  cases m with
  | true =>
    obtain ⟨q, wv, x, e, h1, h2, h3⟩ := h
    exact ⟨q, wv, x, e, sT _ _ h1, h2.imp sT, (h3.imp sT).le l⟩
  | false =>
    have h' : RwAt K H n v o.2 := h
    exact (h'.imp sT).le l
theorem OpsAt.imp {K : PySem.W.Frag} {H H' : Hp} {n k : Nat} {m : Bool} (sT : ∀ p xs, SqT K H p xs → SqT K H' p xs) (l : n ≤ k) : ∀ {xs : List V} {os : List (QQ × Rw)}, OpsAt K H n m xs os → OpsAt K H' k m xs os
  | [], [], _ => trivial
  | [], _ :: _, h => h.elim
  | _ :: _, [], h => h.elim
  | x :: xs, o :: os, h => ⟨h.1.imp sT l, h.2.imp sT l⟩
theorem OpsAt.snoc {K : PySem.W.Frag} {H : Hp} {n : Nat} {m : Bool} : ∀ {xs : List V} {os : List (QQ × Rw)} {x : V} {o : QQ × Rw}, OpsAt K H n m xs os → OpAt K H n m x o → OpsAt K H n m (xs ++ [x]) (os ++ [o])
  | [], [], x, o, _, k => ⟨k, trivial⟩
  | [], _ :: _, _, _, h, _ => h.elim
  | _ :: _, [], _, _, h, _ => h.elim
  | y :: xs, p :: os, x, o, h, k => ⟨h.1, h.2.snoc k⟩
theorem OpsAt.len {K : PySem.W.Frag} {H : Hp} {n : Nat} {m : Bool} : ∀ {xs : List V} {os : List (QQ × Rw)}, OpsAt K H n m xs os → xs.length = os.length
  | [], [], _ => rfl
  | [], _ :: _, h => h.elim
  | _ :: _, [], h => h.elim
  | x :: xs, o :: os, h => by rw [List.length_cons, List.length_cons, h.2.len]
theorem OpsAt.plain {K : PySem.W.Frag} {H : Hp} {n : Nat} : ∀ {xs : List V} {os : List (QQ × Rw)}, OpsAt K H n false xs os → All3 (RwAt K H n) xs (os.map (·.2))
  | [], [], _ => All3.nil
  | [], _ :: _, h => h.elim
  | _ :: _, [], h => h.elim
  | x :: xs, o :: os, h => All3.cons h.1 h.2.plain
theorem OpsAt.mix {K : PySem.W.Frag} {H : Hp} {n : Nat} : ∀ {ys : List V} {os : List (QQ × Rw)}, OpsAt K H n true ys os → ∃ xs : List V, xs.length = ys.length ∧ All3 (RwAt K H n) xs (os.map (·.2)) ∧ ∀ (i : Nat) y x f, ys[i]? = some y → xs[i]? = some x → (os.map (·.1))[i]? = some f → ∃ q wv, y = .ref q ∧ SqT K H q [wv, x] ∧ FrW K H wv f
  | [], [], _ => ⟨[], rfl, All3.nil, fun i y x f h => by cases h⟩
  | [], _ :: _, h => h.elim
  | _ :: _, [], h => h.elim
  | y :: ys, o :: os, h => by
    obtain ⟨q, wv, x, e, h1, h2, h3⟩ := h.1
    obtain ⟨xs, l, ha, hb⟩ := h.2.mix
    refine ⟨x :: xs, by rw [List.length_cons, List.length_cons, l], All3.cons h3 ha, fun i y' x' f a b c => ?_⟩
    cases i with
    | zero => cases a; cases b; cases c; exact ⟨q, wv, e, h1, h2⟩
    | succ i => exact hb i y' x' f a b c
theorem kw_names {k : Str} (h : isKw (TL.tl k) = true) : k ≠ "event" ∧ k ≠ "delay" ∧ k.length ≤ 6 := by
  unfold isKw at h
  rw [SX.S_tl] at h
  have e : inV (.str k) kws4 = decide (k ∈ (["max", "min", "median", "mix"] : List Str)) := in_strs k ["max", "min", "median", "mix"]
  rw [e, decide_eq_true_eq] at h
  simp only [List.mem_cons, List.not_mem_nil, or_false] at h
  rcases h with rfl | rfl | rfl | rfl
  · exact ⟨by decide +kernel, by decide +kernel, by decide +kernel⟩
  · exact ⟨by decide +kernel, by decide +kernel, by decide +kernel⟩
  · exact ⟨by decide +kernel, by decide +kernel, by decide +kernel⟩
  · exact ⟨by decide +kernel, by decide +kernel, by decide +kernel⟩
theorem isMix_eq (k : Str) : isMix (TL.tl k) = decide (k = "mix") := by
  unfold isMix
  refine decide_eq_decide.mpr ⟨fun h => ?_, fun h => by rw [h, mix_S]; rfl⟩
  rw [mix_S]
  exact TL.ext_tl h
theorem OpsAt.node {K : PySem.W.Frag} {H : Hp} {n : Nat} {k : Str} {c : Addr} {xs : List V} {os : List (QQ × Rw)} (hk : isKw (TL.tl k) = true) (hl : os.length ≤ 2000) (hc : SqT K H c (.str k :: xs)) (h : OpsAt K H n (isMix (TL.tl k)) xs os) : RwAt K H (n + 1) (.ref c) (mkT (TL.tl k) os) := by
  obtain ⟨k1, k2, _⟩ := kw_names hk
  unfold mkT
  by_cases m : k = "mix"
  · have e : isMix (TL.tl k) = true := by rw [isMix_eq, decide_eq_true m]
    rw [e] at h
    rw [e, if_pos rfl]
    obtain ⟨ys, l, ha, hb⟩ := h.mix
    rw [m] at hc
    refine ⟨by rw [List.length_map]; exact hl, ys, ⟨c, xs, rfl, hc, l.symm, by rw [List.length_map, l]; exact h.len.symm, hb⟩, ha⟩
  · have e : isMix (TL.tl k) = false := by rw [isMix_eq, decide_eq_false m]
    rw [e] at h
    rw [e, if_neg Bool.false_ne_true, SX.S_tl]
    exact mkNn k1 k2 m (by rw [List.length_map]; exact hl) hc h.plain
/-! ### drawn terms -/
theorem TmAt.rawV {K : PySem.W.Frag} {H : Hp} : ∀ {n : Nat} {v : V} {t : Tm}, TmAt K H n v t → VOk n t → (∀ s ∈ t.flat, s.length ≤ 4000) → RwAt K H n v t.raw
  | 0, _, _, h, _, _ => h.elim
  | n + 1, v, .ev s, h, _, hs => by
    obtain ⟨p, e, z⟩ := h
    rw [Tm.raw]
    refine ⟨Nat.zero_le _, [], ⟨rfl, by show 1 ≤ 2000; decide, fun x hx => ?_, p, e, z⟩, All3.nil⟩
    rw [List.mem_singleton.mp hx]; exact hs s (by rw [Tm.flat]; exact List.mem_singleton.mpr rfl)
  | n + 1, v, .nd k ts, h, g, hs => by
    obtain ⟨xs, h1, h2⟩ := h
    have h3 := g.1.1.2
    rw [Tm.raw, raws_map]
    have fw : ∀ {v f}, FrB K H v f.1 f.2 40 → FrW K H v f := fun z => ⟨z.fr, Nat.lt_of_lt_of_le z.nB (Nat.pow_le_pow_right (by decide) (by decide)), Nat.lt_of_lt_of_le z.dB (Nat.pow_le_pow_right (by decide) (by decide))⟩
    refine ⟨by rw [List.length_map]; omega, xs, ?_, ?_⟩
    · cases k with
      | delay f => obtain ⟨p, x, fv, e1, e2, z, w⟩ := h1; exact ⟨p, x, fv, e1, e2, z, fw w⟩
      | max => obtain ⟨p, e, z⟩ := h1; exact ⟨by decide +kernel, by decide +kernel, by decide +kernel, p, e, z⟩
      | min => obtain ⟨p, e, z⟩ := h1; exact ⟨by decide +kernel, by decide +kernel, by decide +kernel, p, e, z⟩
      | median => obtain ⟨p, e, z⟩ := h1; exact ⟨by decide +kernel, by decide +kernel, by decide +kernel, p, e, z⟩
      | mix ws =>
        obtain ⟨p, ys, e, z, l1, l2, hm⟩ := h1
        refine ⟨p, ys, e, z, l1, l2, fun i y x f a b c => ?_⟩
        obtain ⟨q, wv, e', h3, h4⟩ := hm i y x f a b c
        exact ⟨q, wv, e', h3, fw h4⟩
    · refine ⟨by rw [List.length_map]; exact h2.1, fun i x t a b => ?_⟩
      rw [List.getElem?_map] at b
      cases e : ts[i]? with
      | none => rw [e] at b; cases b
      | some u =>
        rw [e] at b
        cases b
        refine TmAt.rawV (h2.2 i x u a e) (g.2 u (List.mem_of_getElem? e)) fun s hs' => hs s ?_
        rw [Tm.flat]
        have fm : ∀ us : List Tm, u ∈ us → s ∈ Tm.flats us := by
          intro us
          induction us with
          | nil => intro z; cases z
          | cons y us ih =>
            intro z
            rw [Tm.flats]
            rcases List.mem_cons.mp z with q | q
            · rw [← q]; exact List.mem_append_left _ hs'
            · exact List.mem_append_right _ (ih q)
        exact fm ts (List.mem_of_getElem? e)
theorem TmAt.fm {K : PySem.W.Frag} {H : Hp} : ∀ {n : Nat} {v : V} {t : Tm}, TmAt K H n v t → (∀ s ∈ t.flat, s.length ≤ 6) → Fm n t.raw
  | 0, _, _, h, _ => h.elim
  | n + 1, v, .ev s, h, hs => by
    rw [Tm.raw]
    exact ⟨⟨s, rfl, hs s (by rw [Tm.flat]; exact List.mem_singleton.mpr rfl)⟩, fun u hu => by cases hu⟩
  | n + 1, v, .nd k ts, h, hs => by
    obtain ⟨xs, h1, h2⟩ := h
    have fw : ∀ {v : V} {f : QQ}, FrB K H v f.1 f.2 40 → Fin f := fun z => ⟨⟨z.d0, z.g⟩, Nat.lt_trans z.nB (by decide), Nat.lt_trans z.dB (by decide)⟩
    rw [Tm.raw, raws_map]
    refine ⟨?_, fun u hu => ?_⟩
    · cases k with
      | delay f => obtain ⟨p, x, fv, e1, e2, z, w⟩ := h1; exact fw w
      | max => show ("max" : Str).length ≤ 6; decide +kernel
      | min => show ("min" : Str).length ≤ 6; decide +kernel
      | median => show ("median" : Str).length ≤ 6; decide +kernel
      | mix ws =>
        obtain ⟨p, ys, e, z, l1, l2, hm⟩ := h1
        intro w hw
        obtain ⟨i, hi, e⟩ := List.getElem_of_mem hw
        have hy : ys[i]? = some (ys[i]'(by omega)) := List.getElem?_eq_getElem _
        have hx : xs[i]? = some (xs[i]'(by omega)) := List.getElem?_eq_getElem _
        obtain ⟨q, wv, e', h3, h4⟩ := hm i _ _ w hy hx (by rw [List.getElem?_eq_getElem hi, e])
        exact fw h4
    · obtain ⟨t, ht, rfl⟩ := List.mem_map.mp hu
      obtain ⟨i, hi, e⟩ := List.getElem_of_mem ht
      have hx : xs[i]? = some (xs[i]'(by rw [h2.1]; exact hi)) := List.getElem?_eq_getElem _
      refine TmAt.fm (h2.2 i _ t hx (by rw [List.getElem?_eq_getElem hi, e])) fun s hs' => hs s ?_
      rw [Tm.flat]
      have fm : ∀ us : List Tm, t ∈ us → s ∈ Tm.flats us := by
        intro us
        induction us with
        | nil => intro z; cases z
        | cons y us ih =>
          intro z
          rw [Tm.flats]
          rcases List.mem_cons.mp z with q | q
          · rw [← q]; exact List.mem_append_left _ hs'
          · exact List.mem_append_right _ (ih q)
      exact fm ts ht
theorem num40 {n : Int} (h : n.natAbs < 2 ^ 40) : (sgnL n).length ≤ 14 := by
  have := TL.numL_len (n := n.natAbs) (k := 13) (by decide) (by omega)
  unfold sgnL
  split
  · rw [List.length_cons]; omega
  · omega
theorem fmt40 {a b : Int} (ha : a.natAbs < 2 ^ 40) (hb : b.natAbs < 2 ^ 40) : (fmtL (a, b)).length ≤ 29 := by
  have := num40 ha
  have := num40 hb
  unfold fmtL
  split
  · show (sgnL a).length ≤ _; omega
  · show (sgnL a ++ 47 :: sgnL b).length ≤ _
    rw [List.length_append, List.length_cons]; omega
theorem dly40 {f : QQ} (ha : f.1.natAbs < 2 ^ 40) (hb : f.2.natAbs < 2 ^ 40) : (dlyL f).length ≤ 32 := by
  have h1 := fmt40 ha hb
  have h2 := fmt40 (a := -f.1) (b := f.2) (by rw [Int.natAbs_neg]; exact ha) hb
  unfold dlyL
  split
  · rw [List.length_append]; show 3 + _ ≤ _; omega
  · rw [List.length_append]; show 3 + (fmtL (f.1, f.2)).length ≤ _; omega
theorem TmAt.txt_len {K : PySem.W.Frag} {H : Hp} : ∀ {n : Nat} {v : V} {t : Tm}, TmAt K H n v t → (∀ s ∈ t.flat, s.length ≤ 6) → t.raw.txt.length + 40 ≤ 80 * t.raw.size
  | 0, _, _, h, _ => h.elim
  | n + 1, v, .ev s, h, hs => by
    have := hs s (by rw [Tm.flat]; exact List.mem_singleton.mpr rfl)
    rw [Tm.raw, Rw.txt_eq, Rw.size]
    show ([s].map TL.tl).flatten.length + 40 ≤ _
    rw [show ([s].map TL.tl).flatten = TL.tl s by simp, ← TL.len_tl]
    omega
  | n + 1, v, .nd k ts, h, hs => by
    obtain ⟨xs, h1, h2⟩ := h
    have ih : ∀ u ∈ ts.map Tm.raw, u.txt.length + 40 ≤ 80 * u.size := fun u hu => by
      obtain ⟨t, ht, rfl⟩ := List.mem_map.mp hu
      obtain ⟨i, hi, e⟩ := List.getElem_of_mem ht
      have hx : xs[i]? = some (xs[i]'(by rw [h2.1]; exact hi)) := List.getElem?_eq_getElem _
      refine TmAt.txt_len (h2.2 i _ t hx (by rw [List.getElem?_eq_getElem hi, e])) fun s hs' => hs s ?_
      rw [Tm.flat]
      have fm : ∀ us : List Tm, t ∈ us → s ∈ Tm.flats us := by
        intro us
        induction us with
        | nil => intro z; cases z
        | cons y us ih =>
          intro z
          rw [Tm.flats]
          rcases List.mem_cons.mp z with q | q
          · rw [← q]; exact List.mem_append_left _ hs'
          · exact List.mem_append_right _ (ih q)
      exact fm ts ht
    rw [Tm.raw, raws_map]
    generalize hts : ts.map Tm.raw = us at *
    have ul : us.length = ts.length := by rw [← hts, List.length_map]
    have nn : ∀ k : Str, k.length ≤ 6 → (Rw.mk (.nn k) us).txt.length + 40 ≤ 80 * (Rw.mk (.nn k) us).size := fun k kl => by
      rw [Rw.txt_eq, Rw.size]
      show (TL.tl k ++ 40 :: (TL.joinL [44, 32] (us.map Rw.txt) ++ [41])).length + 40 ≤ _
      rw [map_op]
      have j := joinL_len (B := 80) false (us.map fun t => (((0, 1) : QQ), t)) fun o ho => by
        obtain ⟨u, hu, rfl⟩ := List.mem_map.mp ho
        have a2 := ih _ hu
        show u.txt.length + 2 ≤ 80 * u.size
        omega
      rw [map_op2] at j
      rw [List.length_append, List.length_cons, List.length_append, ← TL.len_tl]
      show _ + (_ + 1 + 1) + 40 ≤ _
      omega
    cases k with
    | max => exact nn "max" (by decide +kernel)
    | min => exact nn "min" (by decide +kernel)
    | median => exact nn "median" (by decide +kernel)
    | delay f =>
      obtain ⟨p, x, fv, e1, e2, z, w⟩ := h1
      have l1 : us.length = 1 := by rw [ul, ← h2.1, e1]; rfl
      obtain ⟨u, rfl⟩ := List.length_eq_one_iff.mp l1
      have := ih u (List.mem_singleton.mpr rfl)
      have := dly40 w.nB w.dB
      show (Rw.mk (.dl (some f)) [u]).txt.length + 40 ≤ 80 * (Rw.mk (.dl (some f)) [u]).size
      rw [Rw.txt_eq, Rw.size]
      show (([u].map Rw.txt).flatten ++ dlyL f).length + 40 ≤ _
      rw [show ([u].map Rw.txt).flatten = u.txt by simp, List.length_append, Rw.sizes, Rw.sizes]
      omega
    | mix ws =>
      obtain ⟨p, ys, e, z, l1, l2, hm⟩ := h1
      have wl : ws.length = us.length := by rw [ul, l2, h2.1]
      show (Rw.mk (.mx ws) us).txt.length + 40 ≤ 80 * (Rw.mk (.mx ws) us).size
      rw [Rw.txt_eq, Rw.size]
      show ([109, 105, 120] ++ 40 :: (TL.joinL [44, 32] (List.zipWith (fun w x => fmtL w ++ 32 :: x) ws (us.map Rw.txt)) ++ [41])).length + 40 ≤ _
      rw [zip_opL]
      have j := joinL_len (B := 80) true (ws.zip us) fun o ho => by
        have ho' : (o.1, o.2) ∈ ws.zip us := ho
        obtain ⟨p1, p2⟩ := List.of_mem_zip ho'
        obtain ⟨i, hi, e⟩ := List.getElem_of_mem p1
        have hy : ys[i]? = some (ys[i]'(by omega)) := List.getElem?_eq_getElem _
        have hx : xs[i]? = some (xs[i]'(by omega)) := List.getElem?_eq_getElem _
        obtain ⟨q, wv, e', h3, h4⟩ := hm i _ _ o.1 hy hx (by rw [List.getElem?_eq_getElem hi, e])
        have a1 : (fmtL o.1).length ≤ 29 := fmt40 h4.nB h4.dB
        have a2 := ih _ p2
        show (fmtL o.1 ++ 32 :: o.2.txt).length + 2 ≤ _
        rw [List.length_append, List.length_cons]
        omega
      rw [List.map_snd_zip (by omega)] at j
      rw [List.length_append, show ∀ l : List Nat, (40 :: l).length = l.length + 1 from fun _ => rfl, List.length_append]
      show 3 + (_ + 1 + 1) + 40 ≤ _
      omega
theorem name_len {s : Str} (h : nameB s = true) : s.length ≤ 6 := by
  unfold nameB at h
  rw [Bool.and_eq_true, Bool.and_eq_true, decide_eq_true_eq, decide_eq_true_eq] at h
  exact h.1.2
theorem Eqd.frw {K : PySem.W.Frag} {H : Hp} {n : Nat} {v u : V} {f : QQ} (a : FrW K H v f) (b : FrW K H u f) : Eqd K H (n + 1) v u := by
  obtain ⟨p, rfl, hp⟩ := a.fr
  obtain ⟨q, rfl, hq⟩ := b.fr
  exact Eqd.tup hp hq rfl (by show 2 ≤ 100000; decide) (all2_cons (Eqd.atom rfl) (all2_cons (Eqd.atom rfl) all2_nil))
/-- the same term twice in memory -/
theorem RwAt.eqd {K : PySem.W.Frag} {H : Hp} : ∀ {n : Nat} {v u : V} {t : Rw}, RwAt K H n v t → RwAt K H n u t → Eqd K H (2 * n) v u
  | 0, _, _, _, h, _ => h.elim
  | n + 1, v, u, .mk k ts, ⟨l, xs, h1, h2⟩, ⟨_, ys, k1, k2⟩ => by
    have hl : xs.length = ys.length := by rw [h2.1, k2.1]
    have sub : ∀ (i : Nat) x y, xs[i]? = some x → ys[i]? = some y → Eqd K H (2 * n) x y := fun i x y hx hy => by
      obtain ⟨t, ht, hx'⟩ := h2.at hx
      exact RwAt.eqd hx' (k2.2 i y t hy ht)
    have xl : xs.length ≤ 2000 := by rw [h2.1]; exact l
    show Eqd K H (2 * n + 1 + 1) v u
    match k, h1, k1 with
    | .ev ss, ⟨ex, a1, a2, p, e, z⟩, ⟨_, _, _, q, e', z'⟩ =>
      subst e e'
      refine Eqd.tup z z' rfl (by rw [List.length_cons, List.length_map]; omega) (all2_cons (Eqd.atom rfl) fun i x y hx hy => ?_)
      rw [hx] at hy
      cases hy
      obtain ⟨s, _, rfl⟩ := List.mem_map.mp (List.mem_of_getElem? hx)
      exact Eqd.atom rfl
    | .dl none, ⟨p, x, ex, e, z⟩, ⟨q, y, ey, e', z'⟩ =>
      subst e e' ex ey
      exact Eqd.tup z z' rfl (by show 2 ≤ 100000; decide) (all2_cons (Eqd.atom rfl) (all2_cons (sub 0 x y rfl rfl).up all2_nil))
    | .dl (some f), ⟨p, x, fv, ex, e, z, fw⟩, ⟨q, y, gv, ey, e', z', gw⟩ =>
      subst e e' ex ey
      exact Eqd.tup z z' rfl (by show 3 ≤ 100000; decide) (all2_cons (Eqd.atom rfl) (all2_cons (sub 0 x y rfl rfl).up (all2_cons (Eqd.frw fw gw) all2_nil)))
    | .mx ws, ⟨p, as, e, z, l1, l2, hm⟩, ⟨q, bs, e', z', m1, m2, km⟩ =>
      subst e e'
      refine Eqd.tup z z' (by rw [List.length_cons, List.length_cons]; omega) (by rw [List.length_cons]; omega) (all2_cons (Eqd.atom rfl) fun i a b ha hb => ?_)
      have il : i < as.length := (List.getElem?_eq_some_iff.mp ha).1
      have hx : xs[i]? = some (xs[i]'(by omega)) := List.getElem?_eq_getElem _
      have hy : ys[i]? = some (ys[i]'(by omega)) := List.getElem?_eq_getElem _
      have hw : ws[i]? = some (ws[i]'(by omega)) := List.getElem?_eq_getElem _
      obtain ⟨a', wv, rfl, s1, f1⟩ := hm i a _ _ ha hx hw
      obtain ⟨b', uv, rfl, s2, f2⟩ := km i b _ _ hb hy hw
      have sx := sub i _ _ hx hy
      refine Eqd.tup s1 s2 rfl (by show 2 ≤ 100000; decide) (all2_cons ?_ (all2_cons sx all2_nil))
      cases n with
      | zero =>
        obtain ⟨t, ht, hx'⟩ := h2.at hx
        exact hx'.elim
      | succ n => exact Eqd.frw f1 f2
    | .nn kk, ⟨_, _, _, p, e, z⟩, ⟨_, _, _, q, e', z'⟩ =>
      subst e e'
      exact Eqd.tup z z' (by rw [List.length_cons, List.length_cons, hl]) (by rw [List.length_cons]; omega) (all2_cons (Eqd.atom rfl) fun i x y hx hy => (sub i x y hx hy).up)

def topS (i : Nat) : Stmt := PySem.Challenge.pw_gaithold_k11_term_texts.main.body.getD i (.Pass ⟨0, 0, 0, 0⟩)
abbrev s_p_greatest_divisor : Stmt := topS 7
theorem sc_p_greatest_divisor : FnScope ["one", "other"] ["one", "other"] (defScope s_p_greatest_divisor) := ⟨rfl, rfl, rfl, by decide +kernel, rfl, by decide +kernel, by decide +kernel⟩
abbrev s_p_fraction : Stmt := topS 8
theorem sc_p_fraction : FnScope ["num", "den", "divisor"] ["num", "den"] (defScope s_p_fraction) := ⟨rfl, rfl, rfl, by decide +kernel, rfl, by decide +kernel, by decide +kernel⟩
abbrev s_p_add : Stmt := topS 9
theorem sc_p_add : FnScope ["one", "other"] ["one", "other"] (defScope s_p_add) := ⟨rfl, rfl, rfl, by decide +kernel, rfl, by decide +kernel, by decide +kernel⟩
abbrev s_p_is_less : Stmt := topS 10
theorem sc_p_is_less : FnScope ["one", "other"] ["one", "other"] (defScope s_p_is_less) := ⟨rfl, rfl, rfl, by decide +kernel, rfl, by decide +kernel, by decide +kernel⟩
abbrev s_p_total : Stmt := topS 11
theorem sc_p_total : FnScope ["row", "start", "result", "one"] ["row", "start"] (defScope s_p_total) := ⟨rfl, rfl, rfl, by decide +kernel, rfl, by decide +kernel, by decide +kernel⟩
abbrev s_p_format_fraction : Stmt := topS 12
theorem sc_p_format_fraction : FnScope ["one"] ["one"] (defScope s_p_format_fraction) := ⟨rfl, rfl, rfl, by decide +kernel, rfl, by decide +kernel, by decide +kernel⟩
abbrev s_p_is_digits : Stmt := topS 13
theorem sc_p_is_digits : FnScope ["text"] ["text"] (defScope s_p_is_digits) := ⟨rfl, rfl, rfl, by decide +kernel, rfl, by decide +kernel, by decide +kernel⟩
abbrev s_p_parse_fraction : Stmt := topS 14
theorem sc_p_parse_fraction : FnScope ["text", "upper", "slash", "below", "sign", "value"] ["text"] (defScope s_p_parse_fraction) := ⟨rfl, rfl, rfl, by decide +kernel, rfl, by decide +kernel, by decide +kernel⟩
abbrev s_p_is_valid_name : Stmt := topS 22
theorem sc_p_is_valid_name : FnScope ["thing", "letter"] ["thing"] (defScope s_p_is_valid_name) := ⟨rfl, rfl, rfl, by decide +kernel, rfl, by decide +kernel, by decide +kernel⟩
abbrev s_p_is_number : Stmt := topS 23
theorem sc_p_is_number : FnScope ["thing"] ["thing"] (defScope s_p_is_number) := ⟨rfl, rfl, rfl, by decide +kernel, rfl, by decide +kernel, by decide +kernel⟩
abbrev s_p_is_term_fraction : Stmt := topS 24
theorem sc_p_is_term_fraction : FnScope ["thing", "num", "den"] ["thing"] (defScope s_p_is_term_fraction) := ⟨rfl, rfl, rfl, by decide +kernel, rfl, by decide +kernel, by decide +kernel⟩
abbrev s_p_is_weighted : Stmt := topS 25
theorem sc_p_is_weighted : FnScope ["pair"] ["pair"] (defScope s_p_is_weighted) := ⟨rfl, rfl, rfl, by decide +kernel, rfl, by decide +kernel, by decide +kernel⟩
abbrev s_p_is_mixture : Stmt := topS 26
theorem sc_p_is_mixture : FnScope ["pairs", "pair"] ["pairs"] (defScope s_p_is_mixture) := ⟨rfl, rfl, rfl, by decide +kernel, rfl, by decide +kernel, by decide +kernel⟩
abbrev s_p_has_term_form : Stmt := topS 27
theorem sc_p_has_term_form : FnScope ["thing", "kind", "many"] ["thing"] (defScope s_p_has_term_form) := ⟨rfl, rfl, rfl, by decide +kernel, rfl, by decide +kernel, by decide +kernel⟩
abbrev s_p_subterms : Stmt := topS 28
theorem sc_p_subterms : FnScope ["term", "kind", "pair"] ["term"] (defScope s_p_subterms) := ⟨rfl, rfl, rfl, by decide +kernel, rfl, by decide +kernel, by decide +kernel⟩
abbrev s_p_is_valid_term : Stmt := topS 29
theorem sc_p_is_valid_term : FnScope ["thing", "level", "size", "depth", "part", "whole"] ["thing"] (defScope s_p_is_valid_term) := ⟨rfl, rfl, rfl, by decide +kernel, rfl, by decide +kernel, by decide +kernel⟩
abbrev s_p_format_delay : Stmt := topS 33
theorem sc_p_format_delay : FnScope ["amount"] ["amount"] (defScope s_p_format_delay) := ⟨rfl, rfl, rfl, by decide +kernel, rfl, by decide +kernel, by decide +kernel⟩
abbrev s_p_format_term : Stmt := topS 34
theorem sc_p_format_term : FnScope ["term", "kind", "parts", "weight", "part"] ["term"] (defScope s_p_format_term) := ⟨rfl, rfl, rfl, by decide +kernel, rfl, by decide +kernel, by decide +kernel⟩
abbrev s_p_end_of_run : Stmt := topS 35
theorem sc_p_end_of_run : FnScope ["text", "start", "signs", "end"] ["text", "start", "signs"] (defScope s_p_end_of_run) := ⟨rfl, rfl, rfl, by decide +kernel, rfl, by decide +kernel, by decide +kernel⟩
abbrev s_p_skip : Stmt := topS 36
theorem sc_p_skip : FnScope ["text", "start", "wanted", "end"] ["text", "start", "wanted"] (defScope s_p_skip) := ⟨rfl, rfl, rfl, by decide +kernel, rfl, by decide +kernel, by decide +kernel⟩
abbrev s_p_read_fraction : Stmt := topS 37
theorem sc_p_read_fraction : FnScope ["text", "start", "end"] ["text", "start"] (defScope s_p_read_fraction) := ⟨rfl, rfl, rfl, by decide +kernel, rfl, by decide +kernel, by decide +kernel⟩
abbrev s_p_read_delays : Stmt := topS 38
theorem sc_p_read_delays : FnScope ["text", "start", "term", "end", "sign", "amount"] ["text", "start", "term"] (defScope s_p_read_delays) := ⟨rfl, rfl, rfl, by decide +kernel, rfl, by decide +kernel, by decide +kernel⟩
abbrev s_p_read_operand : Stmt := topS 39
theorem sc_p_read_operand : FnScope ["text", "start", "kind", "level", "weight", "end", "part"] ["text", "start", "kind", "level"] (defScope s_p_read_operand) := ⟨rfl, rfl, rfl, by decide +kernel, rfl, by decide +kernel, by decide +kernel⟩
abbrev s_p_read_operands : Stmt := topS 40
theorem sc_p_read_operands : FnScope ["text", "start", "kind", "level", "operand", "end", "operands"] ["text", "start", "kind", "level"] (defScope s_p_read_operands) := ⟨rfl, rfl, rfl, by decide +kernel, rfl, by decide +kernel, by decide +kernel⟩
abbrev s_p_read_term : Stmt := topS 41
theorem sc_p_read_term : FnScope ["text", "start", "level", "end", "word", "term"] ["text", "start", "level"] (defScope s_p_read_term) := ⟨rfl, rfl, rfl, by decide +kernel, rfl, by decide +kernel, by decide +kernel⟩
abbrev s_p_parse_term : Stmt := topS 42
theorem sc_p_parse_term : FnScope ["text", "term", "end"] ["text"] (defScope s_p_parse_term) := ⟨rfl, rfl, rfl, by decide +kernel, rfl, by decide +kernel, by decide +kernel⟩
abbrev s_l_source : Stmt := topS 44
theorem sc_l_source : FnScope ["_law_script", "_law_knot", "_law_cell"] ["_law_script"] (defScope s_l_source) := ⟨rfl, rfl, rfl, by decide +kernel, rfl, by decide +kernel, by decide +kernel⟩
abbrev s_l_draw : Stmt := topS 45
theorem sc_l_draw : FnScope ["_law_rng", "_law_quantity", "_law_cell", "_law_got", "_law_seed"] ["_law_rng", "_law_quantity"] (defScope s_l_draw) := ⟨rfl, rfl, rfl, by decide +kernel, rfl, by decide +kernel, by decide +kernel⟩
abbrev s_l_choice : Stmt := topS 46
theorem sc_l_choice : FnScope ["_law_rng", "_law_some"] ["_law_rng", "_law_some"] (defScope s_l_choice) := ⟨rfl, rfl, rfl, by decide +kernel, rfl, by decide +kernel, by decide +kernel⟩
abbrev s_l_shuffled : Stmt := topS 47
theorem sc_l_shuffled : FnScope ["_law_rng", "_law_some", "_law_result", "_law_one"] ["_law_rng", "_law_some"] (defScope s_l_shuffled) := ⟨rfl, rfl, rfl, by decide +kernel, rfl, by decide +kernel, by decide +kernel⟩
abbrev s_l_equal : Stmt := topS 48
theorem sc_l_equal : FnScope ["_law_result", "_law_expected", "_law_one", "_law_other"] ["_law_result", "_law_expected"] (defScope s_l_equal) := ⟨rfl, rfl, rfl, by decide +kernel, rfl, by decide +kernel, by decide +kernel⟩
abbrev s_l_reduce : Stmt := topS 49
theorem sc_l_reduce : FnScope ["_law_num", "_law_den", "_law_one", "_law_other", "_law_sign"] ["_law_num", "_law_den"] (defScope s_l_reduce) := ⟨rfl, rfl, rfl, by decide +kernel, rfl, by decide +kernel, by decide +kernel⟩
abbrev s_l_add : Stmt := topS 50
theorem sc_l_add : FnScope ["_law_one", "_law_other"] ["_law_one", "_law_other"] (defScope s_l_add) := ⟨rfl, rfl, rfl, by decide +kernel, rfl, by decide +kernel, by decide +kernel⟩
abbrev s_l_sum : Stmt := topS 51
theorem sc_l_sum : FnScope ["_law_some", "_law_result", "_law_one"] ["_law_some"] (defScope s_l_sum) := ⟨rfl, rfl, rfl, by decide +kernel, rfl, by decide +kernel, by decide +kernel⟩
abbrev s_l_abs : Stmt := topS 52
theorem sc_l_abs : FnScope ["_law_one"] ["_law_one"] (defScope s_l_abs) := ⟨rfl, rfl, rfl, by decide +kernel, rfl, by decide +kernel, by decide +kernel⟩
abbrev s_l_small : Stmt := topS 53
theorem sc_l_small : FnScope ["_law_rng"] ["_law_rng"] (defScope s_l_small) := ⟨rfl, rfl, rfl, by decide +kernel, rfl, by decide +kernel, by decide +kernel⟩
abbrev s_l_letters : Stmt := topS 54
theorem sc_l_letters : FnScope [] [] (defScope s_l_letters) := ⟨rfl, rfl, rfl, by decide +kernel, rfl, by decide +kernel, by decide +kernel⟩
abbrev s_l_is_name : Stmt := topS 55
theorem sc_l_is_name : FnScope ["_law_my_text", "_law_sign"] ["_law_my_text"] (defScope s_l_is_name) := ⟨rfl, rfl, rfl, by decide +kernel, rfl, by decide +kernel, by decide +kernel⟩
abbrev s_l_plain : Stmt := topS 56
theorem sc_l_plain : FnScope ["_law_names_here", "_law_name"] ["_law_names_here"] (defScope s_l_plain) := ⟨rfl, rfl, rfl, by decide +kernel, rfl, by decide +kernel, by decide +kernel⟩
abbrev s_l_names : Stmt := topS 57
theorem sc_l_names : FnScope ["_law_rng", "_law_quantity", "_law_abc", "_law_width", "_law_pos", "_law_lead", "_law_step", "_law_base", "_law_result", "_law_k", "_law_sign", "_law_name", "_law_cut", "_law_spare"] ["_law_rng", "_law_quantity"] (defScope s_l_names) := ⟨rfl, rfl, rfl, by decide +kernel, rfl, by decide +kernel, by decide +kernel⟩
abbrev s_l_operands : Stmt := topS 58
theorem sc_l_operands : FnScope ["_law_my_term", "_law_share", "_law_one"] ["_law_my_term"] (defScope s_l_operands) := ⟨rfl, rfl, rfl, by decide +kernel, rfl, by decide +kernel, by decide +kernel⟩
abbrev s_l_size : Stmt := topS 59
theorem sc_l_size : FnScope ["_law_my_term", "_law_one"] ["_law_my_term"] (defScope s_l_size) := ⟨rfl, rfl, rfl, by decide +kernel, rfl, by decide +kernel, by decide +kernel⟩
abbrev s_l_shares : Stmt := topS 60
theorem sc_l_shares : FnScope ["_law_rng", "_law_quantity", "_law_weights", "_law_k", "_law_one"] ["_law_rng", "_law_quantity"] (defScope s_l_shares) := ⟨rfl, rfl, rfl, by decide +kernel, rfl, by decide +kernel, by decide +kernel⟩
abbrev s_l_term : Stmt := topS 61
theorem sc_l_term : FnScope ["_law_rng", "_law_names_here", "_law_deep", "_law_pick", "_law_quantity", "_law_parts", "_law_k", "_law_share", "_law_one"] ["_law_rng", "_law_names_here", "_law_deep"] (defScope s_l_term) := ⟨rfl, rfl, rfl, by decide +kernel, rfl, by decide +kernel, by decide +kernel⟩
abbrev s_l_format_fraction : Stmt := topS 62
theorem sc_l_format_fraction : FnScope ["_law_x"] ["_law_x"] (defScope s_l_format_fraction) := ⟨rfl, rfl, rfl, by decide +kernel, rfl, by decide +kernel, by decide +kernel⟩
abbrev s_l_format_term : Stmt := topS 63
theorem sc_l_format_term : FnScope ["_law_my_term", "_law_sign", "_law_rows", "_law_share", "_law_one"] ["_law_my_term"] (defScope s_l_format_term) := ⟨rfl, rfl, rfl, by decide +kernel, rfl, by decide +kernel, by decide +kernel⟩
abbrev s_l_is_valid_fraction : Stmt := topS 64
theorem sc_l_is_valid_fraction : FnScope ["_law_x", "_law_good"] ["_law_x"] (defScope s_l_is_valid_fraction) := ⟨rfl, rfl, rfl, by decide +kernel, rfl, by decide +kernel, by decide +kernel⟩
abbrev s_l_is_term : Stmt := topS 65
theorem sc_l_is_term : FnScope ["_law_my_term", "_law_deep", "_law_rest", "_law_one", "_law_share"] ["_law_my_term", "_law_deep"] (defScope s_l_is_term) := ⟨rfl, rfl, rfl, by decide +kernel, rfl, by decide +kernel, by decide +kernel⟩
abbrev s_l_is_valid_term : Stmt := topS 66
theorem sc_l_is_valid_term : FnScope ["_law_my_term"] ["_law_my_term"] (defScope s_l_is_valid_term) := ⟨rfl, rfl, rfl, by decide +kernel, rfl, by decide +kernel, by decide +kernel⟩
abbrev s_l_wide_term : Stmt := topS 67
theorem sc_l_wide_term : FnScope ["_law_rng", "_law_names_here", "_law_quantity", "_law_tag", "_law_parts", "_law_k", "_law_share", "_law_one"] ["_law_rng", "_law_names_here"] (defScope s_l_wide_term) := ⟨rfl, rfl, rfl, by decide +kernel, rfl, by decide +kernel, by decide +kernel⟩
abbrev s_p_law : Stmt := topS 68
theorem sc_p_law : FnScope ["_law_script", "_law_rng", "_law_turn", "_law_names_here", "_law_my_term", "_law_my_text", "_law_again"] ["_law_script"] (defScope s_p_law) := ⟨rfl, rfl, rfl, by decide +kernel, rfl, by decide +kernel, by decide +kernel⟩
def kg_p_format_term_0_term {α : Type} : List α → List α → List α
  | [], [w0] => [w0]
  | _, _ => []
theorem kgr_p_format_term_0_term : ∀ {vs : List V} {us : List Value} {zs : List V} {ws : List Value}, Vals vs us → Vals zs ws → Vals (kg_p_format_term_0_term vs zs) (kg_p_format_term_0_term us ws) := by
  intro vs us zs ws r1 r2
  cases r1 with
  | cons _ _ => first | exact .nil | (cases r2 <;> exact .nil)
  | nil =>
  cases r2 with
  | nil => exact .nil
  | cons hw0 q2_0 =>
  cases q2_0 with
  | cons _ _ => exact .nil
  | nil =>
  exact (.cons hw0 .nil)
def kg_p_parse_term_0_text {α : Type} : List α → List α → List α
  | [], [w0] => [w0]
  | _, _ => []
theorem kgr_p_parse_term_0_text : ∀ {vs : List V} {us : List Value} {zs : List V} {ws : List Value}, Vals vs us → Vals zs ws → Vals (kg_p_parse_term_0_text vs zs) (kg_p_parse_term_0_text us ws) := by
  intro vs us zs ws r1 r2
  cases r1 with
  | cons _ _ => first | exact .nil | (cases r2 <;> exact .nil)
  | nil =>
  cases r2 with
  | nil => exact .nil
  | cons hw0 q2_0 =>
  cases q2_0 with
  | cons _ _ => exact .nil
  | nil =>
  exact (.cons hw0 .nil)
structure Ad where
  f_p_greatest_divisor : Addr
  fd_p_greatest_divisor : FuncData
  f_p_fraction : Addr
  fd_p_fraction : FuncData
  f_p_add : Addr
  fd_p_add : FuncData
  f_p_is_less : Addr
  fd_p_is_less : FuncData
  f_p_total : Addr
  fd_p_total : FuncData
  f_p_format_fraction : Addr
  fd_p_format_fraction : FuncData
  f_p_is_digits : Addr
  fd_p_is_digits : FuncData
  f_p_parse_fraction : Addr
  fd_p_parse_fraction : FuncData
  f_p_is_valid_name : Addr
  fd_p_is_valid_name : FuncData
  f_p_is_number : Addr
  fd_p_is_number : FuncData
  f_p_is_term_fraction : Addr
  fd_p_is_term_fraction : FuncData
  f_p_is_weighted : Addr
  fd_p_is_weighted : FuncData
  f_p_is_mixture : Addr
  fd_p_is_mixture : FuncData
  f_p_has_term_form : Addr
  fd_p_has_term_form : FuncData
  f_p_subterms : Addr
  fd_p_subterms : FuncData
  f_p_is_valid_term : Addr
  fd_p_is_valid_term : FuncData
  f_p_format_delay : Addr
  fd_p_format_delay : FuncData
  f_p_format_term : Addr
  fd_p_format_term : FuncData
  f_p_end_of_run : Addr
  fd_p_end_of_run : FuncData
  f_p_skip : Addr
  fd_p_skip : FuncData
  f_p_read_fraction : Addr
  fd_p_read_fraction : FuncData
  f_p_read_delays : Addr
  fd_p_read_delays : FuncData
  f_p_read_operand : Addr
  fd_p_read_operand : FuncData
  f_p_read_operands : Addr
  fd_p_read_operands : FuncData
  f_p_read_term : Addr
  fd_p_read_term : FuncData
  f_p_parse_term : Addr
  fd_p_parse_term : FuncData
  f_l_source : Addr
  fd_l_source : FuncData
  f_l_draw : Addr
  fd_l_draw : FuncData
  f_l_choice : Addr
  fd_l_choice : FuncData
  f_l_shuffled : Addr
  fd_l_shuffled : FuncData
  f_l_equal : Addr
  fd_l_equal : FuncData
  f_l_reduce : Addr
  fd_l_reduce : FuncData
  f_l_add : Addr
  fd_l_add : FuncData
  f_l_sum : Addr
  fd_l_sum : FuncData
  f_l_abs : Addr
  fd_l_abs : FuncData
  f_l_small : Addr
  fd_l_small : FuncData
  f_l_letters : Addr
  fd_l_letters : FuncData
  f_l_is_name : Addr
  fd_l_is_name : FuncData
  f_l_plain : Addr
  fd_l_plain : FuncData
  f_l_names : Addr
  fd_l_names : FuncData
  f_l_operands : Addr
  fd_l_operands : FuncData
  f_l_size : Addr
  fd_l_size : FuncData
  f_l_shares : Addr
  fd_l_shares : FuncData
  f_l_term : Addr
  fd_l_term : FuncData
  f_l_format_fraction : Addr
  fd_l_format_fraction : FuncData
  f_l_format_term : Addr
  fd_l_format_term : FuncData
  f_l_is_valid_fraction : Addr
  fd_l_is_valid_fraction : FuncData
  f_l_is_term : Addr
  fd_l_is_term : FuncData
  f_l_is_valid_term : Addr
  fd_l_is_valid_term : FuncData
  f_l_wide_term : Addr
  fd_l_wide_term : FuncData
  f_p_law : Addr
  fd_p_law : FuncData
  o_ZERO : Addr
  tk_MAX_DIGITS : Tok
  o_KEYWORDS : Addr
  tk_MAX_NAME : Tok
  tk_MAX_SIDE : Tok
  tk_MAX_OPERANDS : Tok
  tk_MAX_SIZE : Tok
  tk_MAX_DEPTH : Tok
  tk_FRACTION_SIGNS : Tok
  tk_LETTERS : Tok
structure Txt (K : PySem.W.Frag) (mg : Str → Option Value) (a : Ad) : Prop where
  g_p_greatest_divisor : mg "greatest_divisor" = some (.ref a.f_p_greatest_divisor)
  F_p_greatest_divisor : Fun K "greatest_divisor" "greatest_divisor" s_p_greatest_divisor a.f_p_greatest_divisor a.fd_p_greatest_divisor
  b_p_greatest_divisor : Binds K a.fd_p_greatest_divisor ["one", "other"] []
  g_p_fraction : mg "fraction" = some (.ref a.f_p_fraction)
  F_p_fraction : FunD K "fraction" "fraction" (defArgs s_p_fraction) (defBody s_p_fraction) (defScope s_p_fraction) [(.int 1)] [] a.f_p_fraction a.fd_p_fraction
  b_p_fraction_2 : ∃ ds, Vals [] ds ∧ Binds K a.fd_p_fraction ["num", "den"] ds
  g_p_add : mg "add" = some (.ref a.f_p_add)
  F_p_add : Fun K "add" "add" s_p_add a.f_p_add a.fd_p_add
  b_p_add : Binds K a.fd_p_add ["one", "other"] []
  g_p_is_less : mg "is_less" = some (.ref a.f_p_is_less)
  F_p_is_less : Fun K "is_less" "is_less" s_p_is_less a.f_p_is_less a.fd_p_is_less
  b_p_is_less : Binds K a.fd_p_is_less ["one", "other"] []
  g_p_total : mg "total" = some (.ref a.f_p_total)
  F_p_total : FunD K "total" "total" (defArgs s_p_total) (defBody s_p_total) (defScope s_p_total) [] [("start", (.ref a.o_ZERO))] a.f_p_total a.fd_p_total
  b_p_total_1 : ∃ ds, Vals [(.ref a.o_ZERO)] ds ∧ Binds K a.fd_p_total ["row", "start"] ds
  g_p_format_fraction : mg "format_fraction" = some (.ref a.f_p_format_fraction)
  F_p_format_fraction : Fun K "format_fraction" "format_fraction" s_p_format_fraction a.f_p_format_fraction a.fd_p_format_fraction
  b_p_format_fraction : Binds K a.fd_p_format_fraction ["one"] []
  g_p_is_digits : mg "is_digits" = some (.ref a.f_p_is_digits)
  F_p_is_digits : Fun K "is_digits" "is_digits" s_p_is_digits a.f_p_is_digits a.fd_p_is_digits
  b_p_is_digits : Binds K a.fd_p_is_digits ["text"] []
  g_p_parse_fraction : mg "parse_fraction" = some (.ref a.f_p_parse_fraction)
  F_p_parse_fraction : Fun K "parse_fraction" "parse_fraction" s_p_parse_fraction a.f_p_parse_fraction a.fd_p_parse_fraction
  b_p_parse_fraction : Binds K a.fd_p_parse_fraction ["text"] []
  g_p_is_valid_name : mg "is_valid_name" = some (.ref a.f_p_is_valid_name)
  F_p_is_valid_name : Fun K "is_valid_name" "is_valid_name" s_p_is_valid_name a.f_p_is_valid_name a.fd_p_is_valid_name
  b_p_is_valid_name : Binds K a.fd_p_is_valid_name ["thing"] []
  g_p_is_number : mg "is_number" = some (.ref a.f_p_is_number)
  F_p_is_number : Fun K "is_number" "is_number" s_p_is_number a.f_p_is_number a.fd_p_is_number
  b_p_is_number : Binds K a.fd_p_is_number ["thing"] []
  g_p_is_term_fraction : mg "is_term_fraction" = some (.ref a.f_p_is_term_fraction)
  F_p_is_term_fraction : Fun K "is_term_fraction" "is_term_fraction" s_p_is_term_fraction a.f_p_is_term_fraction a.fd_p_is_term_fraction
  b_p_is_term_fraction : Binds K a.fd_p_is_term_fraction ["thing"] []
  g_p_is_weighted : mg "is_weighted" = some (.ref a.f_p_is_weighted)
  F_p_is_weighted : Fun K "is_weighted" "is_weighted" s_p_is_weighted a.f_p_is_weighted a.fd_p_is_weighted
  b_p_is_weighted : Binds K a.fd_p_is_weighted ["pair"] []
  g_p_is_mixture : mg "is_mixture" = some (.ref a.f_p_is_mixture)
  F_p_is_mixture : Fun K "is_mixture" "is_mixture" s_p_is_mixture a.f_p_is_mixture a.fd_p_is_mixture
  b_p_is_mixture : Binds K a.fd_p_is_mixture ["pairs"] []
  g_p_has_term_form : mg "has_term_form" = some (.ref a.f_p_has_term_form)
  F_p_has_term_form : Fun K "has_term_form" "has_term_form" s_p_has_term_form a.f_p_has_term_form a.fd_p_has_term_form
  b_p_has_term_form : Binds K a.fd_p_has_term_form ["thing"] []
  g_p_subterms : mg "subterms" = some (.ref a.f_p_subterms)
  F_p_subterms : Fun K "subterms" "subterms" s_p_subterms a.f_p_subterms a.fd_p_subterms
  b_p_subterms : Binds K a.fd_p_subterms ["term"] []
  g_p_is_valid_term : mg "is_valid_term" = some (.ref a.f_p_is_valid_term)
  F_p_is_valid_term : Fun K "is_valid_term" "is_valid_term" s_p_is_valid_term a.f_p_is_valid_term a.fd_p_is_valid_term
  b_p_is_valid_term : Binds K a.fd_p_is_valid_term ["thing"] []
  g_p_format_delay : mg "format_delay" = some (.ref a.f_p_format_delay)
  F_p_format_delay : Fun K "format_delay" "format_delay" s_p_format_delay a.f_p_format_delay a.fd_p_format_delay
  b_p_format_delay : Binds K a.fd_p_format_delay ["amount"] []
  g_p_format_term : mg "format_term" = some (.ref a.f_p_format_term)
  F_p_format_term : Fun K "format_term" "format_term" s_p_format_term a.f_p_format_term a.fd_p_format_term
  b_p_format_term : Binds K a.fd_p_format_term ["term"] []
  g_p_end_of_run : mg "end_of_run" = some (.ref a.f_p_end_of_run)
  F_p_end_of_run : Fun K "end_of_run" "end_of_run" s_p_end_of_run a.f_p_end_of_run a.fd_p_end_of_run
  b_p_end_of_run : Binds K a.fd_p_end_of_run ["text", "start", "signs"] []
  g_p_skip : mg "skip" = some (.ref a.f_p_skip)
  F_p_skip : Fun K "skip" "skip" s_p_skip a.f_p_skip a.fd_p_skip
  b_p_skip : Binds K a.fd_p_skip ["text", "start", "wanted"] []
  g_p_read_fraction : mg "read_fraction" = some (.ref a.f_p_read_fraction)
  F_p_read_fraction : Fun K "read_fraction" "read_fraction" s_p_read_fraction a.f_p_read_fraction a.fd_p_read_fraction
  b_p_read_fraction : Binds K a.fd_p_read_fraction ["text", "start"] []
  g_p_read_delays : mg "read_delays" = some (.ref a.f_p_read_delays)
  F_p_read_delays : Fun K "read_delays" "read_delays" s_p_read_delays a.f_p_read_delays a.fd_p_read_delays
  b_p_read_delays : Binds K a.fd_p_read_delays ["text", "start", "term"] []
  g_p_read_operand : mg "read_operand" = some (.ref a.f_p_read_operand)
  F_p_read_operand : Fun K "read_operand" "read_operand" s_p_read_operand a.f_p_read_operand a.fd_p_read_operand
  b_p_read_operand : Binds K a.fd_p_read_operand ["text", "start", "kind", "level"] []
  g_p_read_operands : mg "read_operands" = some (.ref a.f_p_read_operands)
  F_p_read_operands : Fun K "read_operands" "read_operands" s_p_read_operands a.f_p_read_operands a.fd_p_read_operands
  b_p_read_operands : Binds K a.fd_p_read_operands ["text", "start", "kind", "level"] []
  g_p_read_term : mg "read_term" = some (.ref a.f_p_read_term)
  F_p_read_term : Fun K "read_term" "read_term" s_p_read_term a.f_p_read_term a.fd_p_read_term
  b_p_read_term : Binds K a.fd_p_read_term ["text", "start", "level"] []
  g_p_parse_term : mg "parse_term" = some (.ref a.f_p_parse_term)
  F_p_parse_term : Fun K "parse_term" "parse_term" s_p_parse_term a.f_p_parse_term a.fd_p_parse_term
  b_p_parse_term : Binds K a.fd_p_parse_term ["text"] []
  g_l_source : mg "_law_source" = some (.ref a.f_l_source)
  F_l_source : Fun K "_law_source" "_law_source" s_l_source a.f_l_source a.fd_l_source
  b_l_source : Binds K a.fd_l_source ["_law_script"] []
  g_l_draw : mg "_law_draw" = some (.ref a.f_l_draw)
  F_l_draw : Fun K "_law_draw" "_law_draw" s_l_draw a.f_l_draw a.fd_l_draw
  b_l_draw : Binds K a.fd_l_draw ["_law_rng", "_law_quantity"] []
  g_l_choice : mg "_law_choice" = some (.ref a.f_l_choice)
  F_l_choice : Fun K "_law_choice" "_law_choice" s_l_choice a.f_l_choice a.fd_l_choice
  b_l_choice : Binds K a.fd_l_choice ["_law_rng", "_law_some"] []
  g_l_shuffled : mg "_law_shuffled" = some (.ref a.f_l_shuffled)
  F_l_shuffled : Fun K "_law_shuffled" "_law_shuffled" s_l_shuffled a.f_l_shuffled a.fd_l_shuffled
  b_l_shuffled : Binds K a.fd_l_shuffled ["_law_rng", "_law_some"] []
  g_l_equal : mg "_law_equal" = some (.ref a.f_l_equal)
  F_l_equal : Fun K "_law_equal" "_law_equal" s_l_equal a.f_l_equal a.fd_l_equal
  b_l_equal : Binds K a.fd_l_equal ["_law_result", "_law_expected"] []
  g_l_reduce : mg "_law_reduce" = some (.ref a.f_l_reduce)
  F_l_reduce : Fun K "_law_reduce" "_law_reduce" s_l_reduce a.f_l_reduce a.fd_l_reduce
  b_l_reduce : Binds K a.fd_l_reduce ["_law_num", "_law_den"] []
  g_l_add : mg "_law_add" = some (.ref a.f_l_add)
  F_l_add : Fun K "_law_add" "_law_add" s_l_add a.f_l_add a.fd_l_add
  b_l_add : Binds K a.fd_l_add ["_law_one", "_law_other"] []
  g_l_sum : mg "_law_sum" = some (.ref a.f_l_sum)
  F_l_sum : Fun K "_law_sum" "_law_sum" s_l_sum a.f_l_sum a.fd_l_sum
  b_l_sum : Binds K a.fd_l_sum ["_law_some"] []
  g_l_abs : mg "_law_abs" = some (.ref a.f_l_abs)
  F_l_abs : Fun K "_law_abs" "_law_abs" s_l_abs a.f_l_abs a.fd_l_abs
  b_l_abs : Binds K a.fd_l_abs ["_law_one"] []
  g_l_small : mg "_law_small" = some (.ref a.f_l_small)
  F_l_small : Fun K "_law_small" "_law_small" s_l_small a.f_l_small a.fd_l_small
  b_l_small : Binds K a.fd_l_small ["_law_rng"] []
  g_l_letters : mg "_law_letters" = some (.ref a.f_l_letters)
  F_l_letters : Fun K "_law_letters" "_law_letters" s_l_letters a.f_l_letters a.fd_l_letters
  b_l_letters : Binds K a.fd_l_letters [] []
  g_l_is_name : mg "_law_is_name" = some (.ref a.f_l_is_name)
  F_l_is_name : Fun K "_law_is_name" "_law_is_name" s_l_is_name a.f_l_is_name a.fd_l_is_name
  b_l_is_name : Binds K a.fd_l_is_name ["_law_my_text"] []
  g_l_plain : mg "_law_plain" = some (.ref a.f_l_plain)
  F_l_plain : Fun K "_law_plain" "_law_plain" s_l_plain a.f_l_plain a.fd_l_plain
  b_l_plain : Binds K a.fd_l_plain ["_law_names_here"] []
  g_l_names : mg "_law_names" = some (.ref a.f_l_names)
  F_l_names : Fun K "_law_names" "_law_names" s_l_names a.f_l_names a.fd_l_names
  b_l_names : Binds K a.fd_l_names ["_law_rng", "_law_quantity"] []
  g_l_operands : mg "_law_operands" = some (.ref a.f_l_operands)
  F_l_operands : Fun K "_law_operands" "_law_operands" s_l_operands a.f_l_operands a.fd_l_operands
  b_l_operands : Binds K a.fd_l_operands ["_law_my_term"] []
  g_l_size : mg "_law_size" = some (.ref a.f_l_size)
  F_l_size : Fun K "_law_size" "_law_size" s_l_size a.f_l_size a.fd_l_size
  b_l_size : Binds K a.fd_l_size ["_law_my_term"] []
  g_l_shares : mg "_law_shares" = some (.ref a.f_l_shares)
  F_l_shares : Fun K "_law_shares" "_law_shares" s_l_shares a.f_l_shares a.fd_l_shares
  b_l_shares : Binds K a.fd_l_shares ["_law_rng", "_law_quantity"] []
  g_l_term : mg "_law_term" = some (.ref a.f_l_term)
  F_l_term : Fun K "_law_term" "_law_term" s_l_term a.f_l_term a.fd_l_term
  b_l_term : Binds K a.fd_l_term ["_law_rng", "_law_names_here", "_law_deep"] []
  g_l_format_fraction : mg "_law_format_fraction" = some (.ref a.f_l_format_fraction)
  F_l_format_fraction : Fun K "_law_format_fraction" "_law_format_fraction" s_l_format_fraction a.f_l_format_fraction a.fd_l_format_fraction
  b_l_format_fraction : Binds K a.fd_l_format_fraction ["_law_x"] []
  g_l_format_term : mg "_law_format_term" = some (.ref a.f_l_format_term)
  F_l_format_term : Fun K "_law_format_term" "_law_format_term" s_l_format_term a.f_l_format_term a.fd_l_format_term
  b_l_format_term : Binds K a.fd_l_format_term ["_law_my_term"] []
  g_l_is_valid_fraction : mg "_law_is_valid_fraction" = some (.ref a.f_l_is_valid_fraction)
  F_l_is_valid_fraction : Fun K "_law_is_valid_fraction" "_law_is_valid_fraction" s_l_is_valid_fraction a.f_l_is_valid_fraction a.fd_l_is_valid_fraction
  b_l_is_valid_fraction : Binds K a.fd_l_is_valid_fraction ["_law_x"] []
  g_l_is_term : mg "_law_is_term" = some (.ref a.f_l_is_term)
  F_l_is_term : Fun K "_law_is_term" "_law_is_term" s_l_is_term a.f_l_is_term a.fd_l_is_term
  b_l_is_term : Binds K a.fd_l_is_term ["_law_my_term", "_law_deep"] []
  g_l_is_valid_term : mg "_law_is_valid_term" = some (.ref a.f_l_is_valid_term)
  F_l_is_valid_term : Fun K "_law_is_valid_term" "_law_is_valid_term" s_l_is_valid_term a.f_l_is_valid_term a.fd_l_is_valid_term
  b_l_is_valid_term : Binds K a.fd_l_is_valid_term ["_law_my_term"] []
  g_l_wide_term : mg "_law_wide_term" = some (.ref a.f_l_wide_term)
  F_l_wide_term : Fun K "_law_wide_term" "_law_wide_term" s_l_wide_term a.f_l_wide_term a.fd_l_wide_term
  b_l_wide_term : Binds K a.fd_l_wide_term ["_law_rng", "_law_names_here"] []
  g_p_law : mg "law" = some (.ref a.f_p_law)
  F_p_law : Fun K "law" "law" s_p_law a.f_p_law a.fd_p_law
  b_p_law : Binds K a.fd_p_law ["_law_script"] []
  n_abs : mg "abs" = none
  n_str : mg "str" = none
  n_len : mg "len" = none
  n_int : mg "int" = none
  n_all : mg "all" = none
  n_isinstance : mg "isinstance" = none
  n_bool : mg "bool" = none
  n_tuple : mg "tuple" = none
  n_list : mg "list" = none
  n_zip : mg "zip" = none
  n_set : mg "set" = none
  n_range : mg "range" = none
  n_max : mg "max" = none
  n_sum : mg "sum" = none
  c_ZERO : mg "ZERO" = some (.ref a.o_ZERO)
  t_ZERO : ∀ H, SqT K H a.o_ZERO [(.int 0), (.int 1)]
  c_MAX_DIGITS : mg "MAX_DIGITS" = some (.int 30 a.tk_MAX_DIGITS)
  c_KEYWORDS : mg "KEYWORDS" = some (.ref a.o_KEYWORDS)
  t_KEYWORDS : ∀ H, SqT K H a.o_KEYWORDS [(.str "max"), (.str "min"), (.str "median"), (.str "mix")]
  c_MAX_NAME : mg "MAX_NAME" = some (.int 6 a.tk_MAX_NAME)
  c_MAX_SIDE : mg "MAX_SIDE" = some (.int 999999999999 a.tk_MAX_SIDE)
  c_MAX_OPERANDS : mg "MAX_OPERANDS" = some (.int 6 a.tk_MAX_OPERANDS)
  c_MAX_SIZE : mg "MAX_SIZE" = some (.int 40 a.tk_MAX_SIZE)
  c_MAX_DEPTH : mg "MAX_DEPTH" = some (.int 10 a.tk_MAX_DEPTH)
  c_FRACTION_SIGNS : mg "FRACTION_SIGNS" = some (.str "0123456789/" a.tk_FRACTION_SIGNS)
  c_LETTERS : mg "LETTERS" = some (.str "abcdefghijklmnopqrstuvwxyz" a.tk_LETTERS)
  kb_p_format_term_0_term : ∃ g, KBn K a.fd_p_format_term ["term"] 0 ["term"] g kg_p_format_term_0_term
  kb_p_parse_term_0_text : ∃ g, KBn K a.fd_p_parse_term ["text"] 0 ["text"] g kg_p_parse_term_0_text
/-- a ParseError(0) is wanted: here never -/
abbrev RzP (_ : Ad) (_ : XK) (_ : Hp) : Prop := False
theorem raise_pe {K : PySem.W.Frag} {mg : Str → Option Value} {a : Ad} (_ : Txt K mg a) {E : XK} {H H2 : Hp} {σ : L2.St} {D : Ends} (_ : Same H H2) (h : RzP a E H) : tNever D σ H2 := h.elim
theorem RzP.same {a : Ad} {E : XK} {H H1 : Hp} (_ : Same H H1) (h : RzP a E H) : RzP a E H1 := h
/-- what reading a term gives: the term and the place behind it in the text -/
def RdQ (K : PySem.W.Frag) (a : Ad) (z : Str) (res : Option (Rw × List Nat)) (H : Hp) (Q : VK) (E : XK) : Prop := (∀ t r, res = some (t, r) → ∀ (p : Addr) (v : V) (n e : Nat) (H' : Hp), Same H H' → e ≤ z.length → (TL.tl z).drop e = r → SqT K H' p [v, .int (e : Int)] → RwAt K H' n v t → Q (.ref p) H') ∧ (res = none → RzP a E H)
/-- .. of a fraction -/
def FrQ (K : PySem.W.Frag) (a : Ad) (z : Str) (res : Option (QQ × List Nat)) (H : Hp) (Q : VK) (E : XK) : Prop := (∀ f r, res = some (f, r) → ∀ (p q : Addr) (e : Nat) (H' : Hp), Same H H' → e ≤ z.length → (TL.tl z).drop e = r → SqT K H' p [.ref q, .int (e : Int)] → SqT K H' q [.int f.1, .int f.2] → Q (.ref p) H') ∧ (res = none → RzP a E H)
def OpQ (K : PySem.W.Frag) (a : Ad) (z : Str) (m : Bool) (res : Option ((QQ × Rw) × List Nat)) (H : Hp) (Q : VK) (E : XK) : Prop := (∀ o r, res = some (o, r) → ∀ (p : Addr) (v : V) (n e : Nat) (H' : Hp), Same H H' → e ≤ z.length → (TL.tl z).drop e = r → SqT K H' p [v, .int (e : Int)] → OpAt K H' n m v o → Q (.ref p) H') ∧ (res = none → RzP a E H)
/-- read_term with so many levels left -/
def spxRT (K : PySem.W.Frag) (a : Ad) (m : Nat) : Sp := fun vs H Q E => ∃ (z : Str) (i lv : Nat), vs = [.str z, .int (i : Int), .int (lv : Int)] ∧ lv + m = 11 ∧ i ≤ z.length ∧ z.length ≤ 3900 ∧ RdQ K a z (rdT m ((TL.tl z).drop i)) H Q E
def spxRO (K : PySem.W.Frag) (a : Ad) (m : Nat) : Sp := fun vs H Q E => ∃ (z k : Str) (i lv : Nat), vs = [.str z, .int (i : Int), .str k, .int (lv : Int)] ∧ lv + m = 11 ∧ i ≤ z.length ∧ z.length ≤ 3900 ∧ OpQ K a z (isMix (TL.tl k)) (rdOp (rdT m) (isMix (TL.tl k)) ((TL.tl z).drop i)) H Q E
def spxROs (K : PySem.W.Frag) (a : Ad) (m : Nat) : Sp := fun vs H Q E => ∃ (z k : Str) (i lv : Nat), vs = [.str z, .int (i : Int), .str k, .int (lv : Int)] ∧ lv + m = 11 ∧ i ≤ z.length ∧ z.length ≤ 3900 ∧ isKw (TL.tl k) = true ∧ RdQ K a z (rdOps (rdT m) (TL.tl k) ((TL.tl z).drop i)) H Q E

section
variable {P : Program} {w : World} {K : PySem.W.Frag} {mg : Str → Option Value} {base : Heap} {a : Ad}
def sp_p_greatest_divisor (_ : PySem.W.Frag) : Sp := fun vs H Q _ => ∃ (n d : Int), vs = [.int n, .int d] ∧ Q (.int (Int.gcd n d : Int)) H

theorem ok_p_greatest_divisor (T : Txt K mg a) : FnOk P w K mg base CX0 1 a.f_p_greatest_divisor a.fd_p_greatest_divisor ["one", "other"] (sp_p_greatest_divisor K) := by
  refine T.F_p_greatest_divisor.ok sc_p_greatest_divisor (fun vs H Q E h => ?_) (fun cdv A outer s H vs Q E hr h => ?_)
  · obtain ⟨n, d, rfl, _⟩ := h
    rfl
  · obtain ⟨n, d, rfl, w⟩ := h
    refine ⟨_, (pss_cons (ps_while PassesOwn.never (pt_cmpR op_ne (pv 1) pe_int (nomark _)) (pss_one (ps_par (i := 0) (j := 1) (by rfl) sc_p_greatest_divisor.nd rfl rfl (by decide) rfl rfl (pa_cons (pv 1) (pa_cons (pe_op op_modN (pv 0) (pv 1)) pa_nil)) (by rfl))))
          (pss_one (ps_ret (pe_callB call_abs (by rfl) T.n_abs (by decide +kernel) (pa_cons (pv 0) pa_nil))))), ?_⟩
    refine ⟨fun m σ H' => ∃ x y : Int, σ = [some (.int x), some (.int y)] ∧ Int.gcd x y = Int.gcd n d ∧ m = y.natAbs ∧ H' = H, ⟨_, n, d, rfl, rfl, rfl, rfl⟩, ?_⟩
    rintro m σ H' ⟨x, y, rfl, hg, rfl, hH⟩
    obtain rfl : H = H' := hH.symm
    refine ⟨.int y, rfl, rfl, _, rfl, ite2 (fun e => ?_) (fun e => ?_)⟩
    · have y1 : y ≠ 0 := fun z => by subst z; simp at e
      refine ⟨fun σ' H' => σ' = [some (.int y), some (.int (x.fmod y))] ∧ H' = H, ?_, ?_⟩
      · rintro σ' H' ⟨rfl, rfl⟩
        exact ⟨(x.fmod y).natAbs, fmod_lt y1, y, x.fmod y, rfl, gcd_fmod.trans hg, rfl, rfl⟩
      · exact ⟨.int y, rfl, .int x, rfl, .int y, rfl, x, y, rfl, rfl, y1, _, _, rfl, rfl, rfl⟩
    · have y1 : y = 0 := by
        by_cases z : y = 0
        · exact z
        · exfalso; apply e; simp [z]
      subst y1
      refine ⟨.int x, rfl, x, rfl, ?_⟩
      have hx : (if x < 0 then -x else x) = (Int.gcd n d : Int) := by
        rw [← hg, Int.gcd_zero_right]
        split <;> omega
      rw [hx]
      exact w
end
section
variable {P : Program} {w : World} {K : PySem.W.Frag} {mg : Str → Option Value} {base : Heap} {a : Ad}
def sp_p_fraction (_ : PySem.W.Frag) : Sp := fun vs H Q _ => ∃ (n d : Int), vs = [.int n, .int d] ∧ d ≠ 0 ∧ d.natAbs < 2 ^ 8000 ∧ ∀ p, H p = none → Q (.ref p) (upd H p (.tup [.int (red n d).1, .int (red n d).2]))

theorem ok_p_fraction (T : Txt K mg a) : FnOk P w K mg base CX0 2 a.f_p_fraction a.fd_p_fraction ["num", "den"] (sp_p_fraction K) := by
  have G_p_greatest_divisor := ok_p_greatest_divisor (P := P) (w := w) (base := base) T
  refine FunD.ok0 T.F_p_fraction sc_p_fraction (fun vs H Q E h => ?_) (fun cdv A outer s H vs Q E hr h => ?_)
  · obtain ⟨n, d, rfl, _⟩ := h
    rfl
  · obtain ⟨n, d, rfl, hd, dB, w⟩ := h
    refine ⟨_, (pss_cons (ps_if (pt_cmpR op_eq (pv 1) pe_int (nomark _)) (pss_one ps_never) pss_nil)
          (pss_cons (ps_set (i := 2) sc_p_fraction.nd rfl (by first | exact Or.inl rfl | exact Or.inr rfl) (pe_call G_p_greatest_divisor (hr.mono (by first | decide | omega)) (by rfl) T.g_p_greatest_divisor T.F_p_greatest_divisor.kp T.b_p_greatest_divisor .nil pass0 (pa_cons (pv 0) (pa_cons (pv 1) pa_nil))))
          (C8.pss_cut (ps_if (pt_cmpR op_lt (pv 1) pe_int (nomark _)) (pss_one (ps_set (i := 2) sc_p_fraction.nd rfl (by first | exact Or.inl rfl | exact Or.inr rfl) (pe_un un_neg (pv 2)))) pss_nil)
          (pss_one (ps_ret (pe_tup (pa_cons (pe_op op_fdivA (pv 0) (pv 2)) (pa_cons (pe_op op_fdivA (pv 1) (pv 2)) pa_nil)))))))), ?_⟩
    have g0 := gcd_posI (n := n) hd
    have gB : (Int.gcd n d : Int).natAbs < 2 ^ 8000 := by
      refine Nat.lt_of_le_of_lt ?_ dB
      have h1 : Int.gcd n d ∣ d.natAbs := Nat.gcd_dvd_right _ _
      have h2 := Nat.le_of_dvd (by omega) h1
      omega
    have fr := frac_red (n := n) hd
    refine ⟨.int d, rfl, rfl, _, rfl, ifF (decide_eq_false fun z => hd (V.int.inj z)) ?_⟩
    refine ⟨.int n, rfl, .int d, rfl, n, d, rfl, ?_⟩
    refine ⟨fun σ H' => σ = [some (.int n), some (.int d), some (.int (if d < 0 then -(Int.gcd n d : Int) else (Int.gcd n d : Int)))] ∧ H' = H, ?_, ?_⟩
    · refine ⟨.int d, rfl, d, 0, rfl, rfl, _, rfl, ite2 (fun e => ?_) (fun e => ?_)⟩
      · refine ⟨.int (Int.gcd n d : Int), rfl, _, rfl, ?_, rfl⟩
        rw [if_pos (of_decide_eq_true e)]
        rfl
      · refine ⟨?_, rfl⟩
        rw [if_neg (fun z => e (decide_eq_true z))]
        rfl
    · rintro σ H' ⟨rfl, rfl⟩
      generalize hG : (if d < 0 then -(Int.gcd n d : Int) else (Int.gcd n d : Int)) = g at *
      have g1 : g ≠ 0 := by rw [← hG]; split <;> omega
      have g2 : g.natAbs < 2 ^ 8000 := by rw [← hG]; split <;> omega
      have cd : ∀ i, CDivA i g := fun _ => ⟨g1, log2_lt g2 (by decide) (by decide)⟩
      refine ⟨.int n, rfl, .int g, rfl, n, g, rfl, rfl, cd n, .int d, rfl, .int g, rfl, d, g, rfl, rfl, cd d, sz (by show 2 ≤ 100000; decide), fun p np => ?_⟩
      have z := w p np
      rw [← fr] at z
      exact z
end
section
variable {P : Program} {w : World} {K : PySem.W.Frag} {mg : Str → Option Value} {base : Heap} {a : Ad}
def sp_p_add (K : PySem.W.Frag) : Sp := spAdd K

theorem ok_p_add (T : Txt K mg a) : FnOk P w K mg base CX0 3 a.f_p_add a.fd_p_add ["one", "other"] (sp_p_add K) := by
  have G_p_fraction := ok_p_fraction (P := P) (w := w) (base := base) T
  obtain ⟨_, v_p_fraction_2, b_p_fraction_2⟩ := T.b_p_fraction_2
  refine T.F_p_add.ok sc_p_add (fun vs H Q E h => ?_) (fun cdv A outer s H vs Q E hr h => ?_)
  · obtain ⟨v1, v2, x, y, rfl, _⟩ := h
    rfl
  · obtain ⟨v1, v2, x, y, rfl, f1, f2, w⟩ := h
    refine ⟨_, (pss_one (ps_ret (pe_call G_p_fraction (hr.mono (by first | decide | omega)) (by rfl) T.g_p_fraction T.F_p_fraction.kp b_p_fraction_2 v_p_fraction_2 pass0 (pa_cons (pe_op op_add (pe_op op_mulW (pe_ix ix_tup (pv 0) pe_int (fun _ _ => rfl)) (pe_ix ix_tup (pv 1) pe_int (fun _ _ => rfl))) (pe_op op_mulW (pe_ix ix_tup (pv 1) pe_int (fun _ _ => rfl)) (pe_ix ix_tup (pv 0) pe_int (fun _ _ => rfl)))) (pa_cons (pe_op op_mulW (pe_ix ix_tup (pv 0) pe_int (fun _ _ => rfl)) (pe_ix ix_tup (pv 1) pe_int (fun _ _ => rfl))) pa_nil))))), ?_⟩
    obtain ⟨p, rfl, hp⟩ := f1.fr
    obtain ⟨q, rfl, hq⟩ := f2.fr
    have cm : ∀ {i j : Int}, i.natAbs < 2 ^ 3000 → j.natAbs < 2 ^ 3000 → CMulW i j := fun a b => mulW a b (by decide) (by decide)
    refine ⟨.ref p, rfl, p, _, 0, _, rfl, rfl, hp, rfl, .ref q, rfl, q, _, 1, _, rfl, rfl, hq, rfl, x.1, y.2, rfl, rfl, cm f1.nB f2.dB, .ref q, rfl, q, _, 0, _, rfl, rfl, hq, rfl, .ref p, rfl, p, _, 1, _, rfl, rfl, hp, rfl, y.1, x.2, rfl, rfl, cm f2.nB f1.dB, _, _, rfl, rfl, ?_⟩
    refine ⟨.ref p, rfl, p, _, 1, _, rfl, rfl, hp, rfl, .ref q, rfl, q, _, 1, _, rfl, rfl, hq, rfl, x.2, y.2, rfl, rfl, cm f1.dB f2.dB, _, _, rfl, pos_ne f1.d0 f2.d0, ?_, fun r nr => w r nr⟩
    rw [Int.natAbs_mul]
    exact Nat.lt_of_lt_of_le (Nat.mul_lt_mul'' f1.dB f2.dB) (by rw [← Nat.pow_add]; exact Nat.pow_le_pow_right (by decide) (by decide))
end
section
variable {P : Program} {w : World} {K : PySem.W.Frag} {mg : Str → Option Value} {base : Heap} {a : Ad}
def sp_p_is_less (K : PySem.W.Frag) : Sp := spLess K

theorem ok_p_is_less (T : Txt K mg a) : FnOk P w K mg base CX0 1 a.f_p_is_less a.fd_p_is_less ["one", "other"] (sp_p_is_less K) := by
  refine T.F_p_is_less.ok sc_p_is_less (fun vs H Q E h => ?_) (fun cdv A outer s H vs Q E hr h => ?_)
  · obtain ⟨v1, v2, x, y, rfl, _⟩ := h
    rfl
  · obtain ⟨v1, v2, x, y, rfl, f1, f2, w⟩ := h
    refine ⟨_, (pss_one (ps_ret (pe_cmpR op_lt (pe_op op_mulW (pe_ix ix_tup (pv 0) pe_int (fun _ _ => rfl)) (pe_ix ix_tup (pv 1) pe_int (fun _ _ => rfl))) (pe_op op_mulW (pe_ix ix_tup (pv 1) pe_int (fun _ _ => rfl)) (pe_ix ix_tup (pv 0) pe_int (fun _ _ => rfl))) (nomark _)))), ?_⟩
    obtain ⟨p, rfl, hp⟩ := f1.fr
    obtain ⟨q, rfl, hq⟩ := f2.fr
    have cm : ∀ {i j : Int}, i.natAbs < 2 ^ 20000 → j.natAbs < 2 ^ 20000 → CMulW i j := fun a b => mulW a b (by decide) (by decide)
    exact ⟨.ref p, rfl, p, _, 0, _, rfl, rfl, hp, rfl, .ref q, rfl, q, _, 1, _, rfl, rfl, hq, rfl, x.1, y.2, rfl, rfl, cm f1.nB f2.dB, .ref q, rfl, q, _, 0, _, rfl, rfl, hq, rfl, .ref p, rfl, p, _, 1, _, rfl, rfl, hp, rfl, y.1, x.2, rfl, rfl, cm f2.nB f1.dB, _, _, rfl, rfl, w⟩
end
section
variable {P : Program} {w : World} {K : PySem.W.Frag} {mg : Str → Option Value} {base : Heap} {a : Ad}
theorem fold_more {fs : List QQ} {s : QQ} {i : Nat} {f : QQ} (h : fs[i]? = some f) : (fs.take (i + 1)).foldl radd s = radd ((fs.take i).foldl radd s) f := by
  rw [List.take_add_one, h, List.foldl_append]
  rfl

def sp_p_total (K : PySem.W.Frag) : Sp := fun vs H Q _ => ∃ (p : Addr) (xs : List V) (fs : List QQ) (v0 : V) (s0 : QQ), vs = [.ref p, v0] ∧ Sq K H p xs ∧ Frs K H xs fs 40 ∧ xs.length ≤ 60 ∧ FrB K H v0 s0.1 s0.2 40 ∧ ∀ v H', Same H H' → FrB K H' v (fs.foldl radd s0).1 (fs.foldl radd s0).2 2600 → Q v H'

theorem ok_p_total (T : Txt K mg a) : FnOk P w K mg base CX0 4 a.f_p_total a.fd_p_total ["row", "start"] (sp_p_total K) := by
  have G_p_add := ok_p_add (P := P) (w := w) (base := base) T
  refine FunD.ok0 T.F_p_total sc_p_total (fun vs H Q E h => ?_) (fun cdv A outer s H vs Q E hr h => ?_)
  · obtain ⟨p, xs, fs, v0, s0, rfl, _⟩ := h
    rfl
  · obtain ⟨p, xs, fs, v0, s0, rfl, hS, hF, hl, f0, w⟩ := h
    refine ⟨_, (pss_cons (ps_set (i := 2) sc_p_total.nd rfl (by first | exact Or.inl rfl | exact Or.inr rfl) (pv 1))
          (pss_cons (ps_for PassesOwn.never rfl (EnT.pi_or (pi_list (pv 0)) (pi_tup (pv 0))) (pg_name (i := 3) sc_p_total.nd rfl (by first | exact Or.inl rfl | exact Or.inr rfl)) (pss_one (ps_set (i := 2) sc_p_total.nd rfl (by first | exact Or.inl rfl | exact Or.inr rfl) (pe_call G_p_add (hr.mono (by first | decide | omega)) (by rfl) T.g_p_add T.F_p_add.kp T.b_p_add .nil pass0 (pa_cons (pv 2) (pa_cons (pv 3) pa_nil))))))
          (pss_one (ps_ret (pv 2))))), ?_⟩
    refine ⟨v0, rfl, ?_⟩
    rcases hS with hS | hS
    · refine .inl ⟨.ref p, rfl, p, rfl, ⟨_, hS⟩, for_list (K := K) (a := p) (xs := xs) (fun i σ H' => ∃ v y, σ = [some (.ref p), some v0, some v, y] ∧ Same H H' ∧ FrB K H' v ((fs.take i).foldl radd s0).1 ((fs.take i).foldl radd s0).2 (40 + 41 * i)) ⟨v0, none, rfl, Same.refl H, f0⟩ (fun i σ H' _ ⟨_, _, _, s1, _⟩ => s1.seq hS) ?_ ?_⟩
      · rintro i x σ H1 hx ⟨v, y, rfl, s1, fv⟩
        obtain ⟨f, hf, fx⟩ := (hF.same s1).at hx
        have hl' := hF.1
        have hi : i < xs.length := (List.getElem?_eq_some_iff.mp hx).1
        refine ⟨v, rfl, x, rfl, v, x, _, f, rfl, fv.up' (by omega), fx.up' (by omega), fun q nq => ?_⟩
        refine ⟨_, _, rfl, s1.trans (Same.new nq), ?_⟩
        have z := FrB.add (p := q) fv fx
        rw [fold_more hf]
        exact z.up' (by omega)
      · rintro σ H1 ⟨v, y, rfl, s1, fv⟩
        have hl' := hF.1
        rw [hF.1, List.take_length] at fv
        exact ⟨v, rfl, w v H1 s1 (fv.up' (by omega))⟩
    · refine .inr ⟨.ref p, rfl, p, rfl, ⟨_, hS⟩, for_tup (K := K) (a := p) (xs := xs) (fun i σ H' => ∃ v y, σ = [some (.ref p), some v0, some v, y] ∧ Same H H' ∧ FrB K H' v ((fs.take i).foldl radd s0).1 ((fs.take i).foldl radd s0).2 (40 + 41 * i)) ⟨v0, none, rfl, Same.refl H, f0⟩ (fun i σ H' _ ⟨_, _, _, s1, _⟩ => Same.T s1 hS) ?_ ?_⟩
      · rintro i x σ H1 hx ⟨v, y, rfl, s1, fv⟩
        obtain ⟨f, hf, fx⟩ := (hF.same s1).at hx
        have hl' := hF.1
        have hi : i < xs.length := (List.getElem?_eq_some_iff.mp hx).1
        refine ⟨v, rfl, x, rfl, v, x, _, f, rfl, fv.up' (by omega), fx.up' (by omega), fun q nq => ?_⟩
        refine ⟨_, _, rfl, s1.trans (Same.new nq), ?_⟩
        have z := FrB.add (p := q) fv fx
        rw [fold_more hf]
        exact z.up' (by omega)
      · rintro σ H1 ⟨v, y, rfl, s1, fv⟩
        have hl' := hF.1
        rw [hF.1, List.take_length] at fv
        exact ⟨v, rfl, w v H1 s1 (fv.up' (by omega))⟩
end
section
variable {P : Program} {w : World} {K : PySem.W.Frag} {mg : Str → Option Value} {base : Heap} {a : Ad}
def sp_p_format_fraction (K : PySem.W.Frag) : Sp := fun vs H Q _ => ∃ (v : V) (n d : Int), vs = [v] ∧ Fr K H v n d ∧ n.natAbs < 2 ^ 1000 ∧ d.natAbs < 2 ^ 1000 ∧ Q (.str (SX.S (fmtL (n, d)))) H
theorem lg_lt {i : Int} (h : i.natAbs < 2 ^ 1000) : i.natAbs.log2 < 1920 := Nat.lt_of_lt_of_le (PySem.Flt.log2_lt_of (by decide) h) (by decide)
theorem txt_len {i : Int} (h : i.natAbs < 2 ^ 1000) : (Str.ofString (toString i)).length ≤ 1001 := by rw [PySem.ofString_length]; exact PySem.int_text_length_le (by decide) (PySem.Flt.log2_lt_of (by decide) h)

theorem ok_p_format_fraction (T : Txt K mg a) : FnOk P w K mg base CX0 1 a.f_p_format_fraction a.fd_p_format_fraction ["one"] (sp_p_format_fraction K) := by
  refine T.F_p_format_fraction.ok sc_p_format_fraction (fun vs H Q E h => ?_) (fun cdv A outer s H vs Q E hr h => ?_)
  · obtain ⟨v, n, d, rfl, _⟩ := h
    rfl
  · obtain ⟨v, n, d, rfl, ⟨p, rfl, hp⟩, hn, hd, w⟩ := h
    refine ⟨_, (pss_cons (ps_if (pt_cmpR op_eq (pe_ix ix_tup (pv 0) pe_int (fun _ _ => rfl)) pe_int (nomark _)) (pss_one (ps_ret (pe_callTy call_str_int (by rfl) T.n_str (by decide +kernel) (pa_cons (pe_ix ix_tup (pv 0) pe_int (fun _ _ => rfl)) pa_nil)))) pss_nil)
          (pss_one (ps_ret (pe_joined (.cons (pe_fmt (pe_ix ix_tup (pv 0) pe_int (fun _ _ => rfl))) (.cons pe_str (.cons (pe_fmt (pe_ix ix_tup (pv 0) pe_int (fun _ _ => rfl))) .nil))))))), ?_⟩
    refine ⟨.ref p, rfl, p, _, 1, _, rfl, rfl, hp, rfl, rfl, _, rfl, ite2 (fun e => ?_) (fun e => ?_)⟩
    · have e' : d = 1 := V.int.inj (of_decide_eq_true e)
      refine ⟨.ref p, rfl, p, _, 0, _, rfl, rfl, hp, rfl, n, rfl, lg_lt hn, ?_⟩
      unfold fmtL at w
      rw [if_pos e', ← S_int] at w
      exact w
    · have e' : ¬ d = 1 := fun z => e (decide_eq_true (by rw [z]))
      have tn := txt_len hn
      have td := txt_len hd
      have l1 : ("/" : Str).length = 1 := by decide +kernel
      have l0 : (Str.empty).length = 0 := by decide +kernel
      have la := Str.length_append
      refine ⟨.ref p, rfl, p, _, 0, _, rfl, rfl, hp, rfl, .inr ⟨n, rfl, lg_lt hn, _, rfl, sz (by rw [la]; omega), _, rfl, sz (by rw [la, la]; omega), .ref p, rfl, p, _, 1, _, rfl, rfl, hp, rfl, .inr ⟨d, rfl, lg_lt hd, _, rfl, sz (by rw [la, la, la]; omega), ?_⟩⟩⟩
      unfold fmtL at w
      rw [if_neg e'] at w
      have z : Str.empty ++ Str.ofString (toString n) ++ ("/" : Str) ++ Str.ofString (toString d) = SX.S (sgnL n ++ 47 :: sgnL d) := by
        refine TL.ext_tl ?_
        rw [TL.tl_append, TL.tl_append, TL.tl_append, tl_int, tl_int]
        show [] ++ sgnL n ++ TL.tl ("/" : Str) ++ sgnL d = _
        rw [slash_S, List.nil_append, List.append_assoc]
        rfl
      show Q (.str (Str.empty ++ Str.ofString (toString n) ++ ("/" : Str) ++ Str.ofString (toString d))) H
      rw [z]
      exact w
end
section
variable {P : Program} {w : World} {K : PySem.W.Frag} {mg : Str → Option Value} {base : Heap} {a : Ad}
def sp_p_is_digits (K : PySem.W.Frag) : Sp := fun vs H Q _ => ∃ z : Str, vs = [.str z] ∧ z.length ≤ 100000 ∧ Q (.bl (isD (TL.tl z))) H

theorem ok_p_is_digits (T : Txt K mg a) : FnOk P w K mg base CX0 1 a.f_p_is_digits a.fd_p_is_digits ["text"] (sp_p_is_digits K) := by
  refine T.F_p_is_digits.ok sc_p_is_digits (fun vs H Q E h => ?_) (fun cdv A outer s H vs Q E hr h => ?_)
  · obtain ⟨z, rfl, _⟩ := h
    rfl
  · obtain ⟨z, rfl, hz, w⟩ := h
    refine ⟨_, (pss_one (ps_ret (pe_and (pe_bm0 PySem.F.plainAttrs_str PySem.F.slot_str_isascii PySem.F.type_str_isascii mt_isascii (pv 0)) (pe_and (pe_bm0 PySem.F.plainAttrs_str PySem.F.slot_str_isdigit PySem.F.type_str_isdigit mt_isdigit (pv 0)) (pe_one (pe_cmpR op_le (pe_callB call_len (by rfl) T.n_len (by decide +kernel) (pa_cons (pv 0) pa_nil)) (pe_glob (v := .int 30) (by rfl) T.c_MAX_DIGITS ⟨_, rfl⟩) (nomark _))))))), ?_⟩
    have e := digits_all z
    refine ⟨.str z, rfl, rfl, z, rfl, rfl, trivial, _, rfl, ?_⟩
    have fin : (!(TL.tl z).isEmpty && (TL.tl z).all dig) = false → Q (.bl false) H := fun h => by
      unfold isD at w
      rw [h, Bool.false_and] at w
      exact w
    cases h1 : Txt.isascii z with
    | false => exact ifF rfl (fin (by rw [← e, h1]; rfl))
    | true =>
      refine ifT rfl ⟨.str z, rfl, rfl, z, rfl, rfl, trivial, _, rfl, ?_⟩
      cases h2 : Txt.isdigit z with
      | false => exact ifF rfl (fin (by rw [← e, h1, h2]; rfl))
      | true =>
        refine ifT rfl ⟨.str z, rfl, .str z, z.length, rfl, ⟨sz hz, rfl⟩, (z.length : Int), 30, rfl, rfl, ?_⟩
        unfold isD at w
        rw [← e, h1, h2, ← TL.len_tl] at w
        have e3 : decide ((z.length : Int) ≤ 30) = decide (z.length ≤ 30) := decide_eq_decide.mpr (by omega)
        show Q (.bl (decide ((z.length : Int) ≤ 30))) H
        rw [e3]
        exact w
end
section
variable {P : Program} {w : World} {K : PySem.W.Frag} {mg : Str → Option Value} {base : Heap} {a : Ad}
def sp_p_parse_fraction (K : PySem.W.Frag) : Sp := fun vs H Q _ => ∃ (z : Str) (f : Int × Int), vs = [.str z] ∧ z.length ≤ 4000 ∧ progP (TL.tl z) = some f ∧ ∀ p H', Same H H' → SqT K H' p [.int f.1, .int f.2] → Q (.ref p) H'
def spx_p_parse_fraction (K : PySem.W.Frag) (a : Ad) : Sp := fun vs H Q E => ∃ z : Str, vs = [.str z] ∧ z.length ≤ 4000 ∧ (∀ f, progP (TL.tl z) = some f → ∀ p H', Same H H' → SqT K H' p [.int f.1, .int f.2] → Q (.ref p) H') ∧
  (progP (TL.tl z) = none → RzP a E H)

theorem okx_p_parse_fraction (T : Txt K mg a) : FnOk P w K mg base CX0 3 a.f_p_parse_fraction a.fd_p_parse_fraction ["text"] (spx_p_parse_fraction K a) := by
  have G_p_fraction := ok_p_fraction (P := P) (w := w) (base := base) T
  have G_p_format_fraction := ok_p_format_fraction (P := P) (w := w) (base := base) T
  have G_p_is_digits := ok_p_is_digits (P := P) (w := w) (base := base) T
  obtain ⟨_, v_p_fraction_2, b_p_fraction_2⟩ := T.b_p_fraction_2
  refine T.F_p_parse_fraction.ok sc_p_parse_fraction (fun vs H Q E h => ?_) (fun cdv A outer s H vs Q E hr h => ?_)
  · obtain ⟨z, rfl, _⟩ := h
    rfl
  · obtain ⟨z, rfl, hz, w, wx⟩ := h
    refine ⟨_, (pss_cons (ps_asg (pe_bm PySem.F.plainAttrs_str PySem.F.slot_str_partition PySem.F.type_str_partition mt_partition (pe_bm PySem.F.plainAttrs_str PySem.F.slot_str_removeprefix PySem.F.type_str_removeprefix mt_removeprefix (pv 0) (pa_cons pe_str pa_nil)) (pa_cons pe_str pa_nil)) (pg_tup rfl (pgs_cons (pg_name (i := 1) sc_p_parse_fraction.nd rfl (by first | exact Or.inl rfl | exact Or.inr rfl)) (pgs_cons (pg_name (i := 2) sc_p_parse_fraction.nd rfl (by first | exact Or.inl rfl | exact Or.inr rfl)) (pgs_cons (pg_name (i := 3) sc_p_parse_fraction.nd rfl (by first | exact Or.inl rfl | exact Or.inr rfl)) pgs_nil)))))
          (C8.pss_cut (ps_if (pt_cmpR op_eq (pv 2) pe_str (nomark _)) (pss_one (ps_set (i := 3) sc_p_parse_fraction.nd rfl (by first | exact Or.inl rfl | exact Or.inr rfl) pe_str)) pss_nil)
          (pss_cons (ps_if (PW.pt (pw_or (pt_not (pt_val (pe_call G_p_is_digits (hr.mono (by first | decide | omega)) (by rfl) T.g_p_is_digits T.F_p_is_digits.kp T.b_p_is_digits .nil pass0 (pa_cons (pv 1) pa_nil)))) (pw_or (pt_not (pt_val (pe_call G_p_is_digits (hr.mono (by first | decide | omega)) (by rfl) T.g_p_is_digits T.F_p_is_digits.kp T.b_p_is_digits .nil pass0 (pa_cons (pv 3) pa_nil)))) (pw_or1 (pt_cmpR op_eq (pe_callTy call_int_str (by rfl) T.n_int (by decide +kernel) (pa_cons (pv 3) pa_nil)) pe_int (nomark _)))))) (pss_one ps_never) pss_nil)
          (pss_cons (ps_set (i := 4) sc_p_parse_fraction.nd rfl (by first | exact Or.inl rfl | exact Or.inr rfl) (pe_ifExp (pt_val (pe_bm PySem.F.plainAttrs_str PySem.F.slot_str_startswith PySem.F.type_str_startswith mt_startswith (pv 0) (pa_cons pe_str pa_nil))) (pe_un un_neg pe_int) pe_int))
          (pss_cons (ps_set (i := 5) sc_p_parse_fraction.nd rfl (by first | exact Or.inl rfl | exact Or.inr rfl) (pe_call G_p_fraction (hr.mono (by first | decide | omega)) (by rfl) T.g_p_fraction T.F_p_fraction.kp b_p_fraction_2 v_p_fraction_2 pass0 (pa_cons (pe_op op_mul (pv 4) (pe_callTy call_int_str (by rfl) T.n_int (by decide +kernel) (pa_cons (pv 1) pa_nil))) (pa_cons (pe_callTy call_int_str (by rfl) T.n_int (by decide +kernel) (pa_cons (pv 3) pa_nil)) pa_nil))))
          (pss_cons (ps_if (pt_cmpR op_ne (pe_call G_p_format_fraction (hr.mono (by first | decide | omega)) (by rfl) T.g_p_format_fraction T.F_p_format_fraction.kp T.b_p_format_fraction .nil pass0 (pa_cons (pv 5) pa_nil)) (pv 0) (nomark _)) (pss_one ps_never) pss_nil)
          (pss_one (ps_ret (pv 5))))))))), ?_⟩
    have l1 : ("/" : Str).length = 1 := by decide +kernel
    have bad : ∀ (H2 : Hp), Same H H2 → progP (TL.tl z) = none → RzP a E H := fun H2 _ hn => wx hn
    have stl : (strip (TL.tl z)).2.length ≤ z.length := by
      have hp := congrArg List.length (strip_pre (TL.tl z))
      rw [← TL.len_tl] at hp
      unfold pre at hp
      split at hp
      · rw [List.length_cons] at hp; omega
      · omega
    refine ⟨.str z, rfl, rfl, z, "-", rfl, rfl, sz (by omega), ?_⟩
    rw [rp_minus]
    refine ⟨rfl, SX.S (strip (TL.tl z)).2, "/", rfl, rfl, by decide +kernel, sz (by rw [SX.S_len]; omega), fun tp ntp => ?_⟩
    have sT : ∀ xs : List V, Same H (upd H tp (.tup xs)) := fun xs => Same.new ntp
    refine ⟨tp, _, rfl, SqT.of upd_same, rfl, _, _, rfl, _, _, rfl, _, _, rfl, rfl, ?_⟩
    refine ⟨fun σ H' => ∃ (u w0 : List Nat) (sl : Str), σ = [some (.str z), some (.str (SX.S u)), some (.str sl), some (.str (SX.S w0)), none, none] ∧ Same H H' ∧ u.length ≤ 4000 ∧ w0.length ≤ 4000 ∧ progP (TL.tl z) = prog2 (TL.tl z) (strip (TL.tl z)).1 u w0, ?_, ?_⟩
    · cases hp : TL.par [47] [] (strip (TL.tl z)).2 with
      | none =>
        rw [part_none hp]
        refine ⟨.str "", rfl, rfl, _, rfl, ifT (decide_eq_true rfl) ?_⟩
        refine ⟨_, [49], "", rfl, sT _, by omega, by decide, ?_⟩
        unfold progP
        rw [hp]
      | some uw =>
        obtain ⟨u, w0⟩ := uw
        rw [part_some hp]
        refine ⟨.str "/", rfl, rfl, _, rfl, ifF (by decide +kernel) ?_⟩
        have pl := par_len hp
        refine ⟨u, w0, "/", rfl, sT _, by omega, by omega, ?_⟩
        unfold progP
        rw [hp]
    rintro σ H2 ⟨u, w0, sl, rfl, s2, ul, wl, hP⟩
    unfold prog2 at hP
    refine ⟨.str (SX.S u), rfl, SX.S u, rfl, by rw [SX.S_len]; omega, _, rfl, ?_⟩
    have tlS : ∀ l : List Nat, TL.tl (SX.S l) = l := fun _ => rfl
    rw [tlS]
    cases hu : isD u with
    | false =>
      rw [hu, Bool.false_and] at hP
      exact ifT rfl (ifT rfl (raise_pe T s2 (bad H2 s2 hP)))
    | true =>
      refine ifF rfl ?_
      refine ⟨.str (SX.S w0), rfl, SX.S w0, rfl, by rw [SX.S_len]; omega, _, rfl, ?_⟩
      rw [tlS]
      cases hw : isD w0 with
      | false =>
        rw [hw, Bool.and_false] at hP
        exact ifT rfl (ifT rfl (raise_pe T s2 (bad H2 s2 hP)))
      | true =>
        rw [hu, hw, show (true && true) = true from rfl, if_pos rfl] at hP
        refine ifF rfl ?_
        obtain ⟨iw, lw⟩ := isD_int (z := SX.S w0) hw
        obtain ⟨iu, lu⟩ := isD_int (z := SX.S u) hu
        rw [tlS] at iw iu
        refine ⟨.str (SX.S w0), rfl, SX.S w0, _, rfl, iw, lw, rfl, _, rfl, ite2 (fun e => ?_) (fun e => ?_)⟩
        · have e0 : PySem.NumText.digitsVal w0 = 0 := by
            have := V.int.inj (of_decide_eq_true e)
            omega
          rw [if_pos e0] at hP
          exact raise_pe T s2 (bad H2 s2 hP)
        · have e0 : ¬ PySem.NumText.digitsVal w0 = 0 := fun y => e (by rw [y]; decide)
          rw [if_neg e0] at hP
          have vu := val_lt hu
          have vw := val_lt hw
          have B : (10 : Nat) ^ 30 < 2 ^ 100 := by decide
          have hB : ((PySem.NumText.digitsVal w0 : Nat) : Int).natAbs < 2 ^ 8000 := Nat.lt_of_lt_of_le (show _ < 2 ^ 100 by omega) (Nat.pow_le_pow_right (by decide) (by decide))
          have go : ∀ (m : Bool) (sgn : Int), (strip (TL.tl z)).1 = m → sgn * ((PySem.NumText.digitsVal u : Nat) : Int) = sg m (PySem.NumText.digitsVal u) → (sgn = 1 ∨ sgn = -1) → True := fun _ _ _ _ _ => trivial
          refine go_next ?_
          dsimp only
          refine go_seq (go_asg ?_)
          refine both (te := tIf _ _ _) (fun v H' => H' = H2 ∧ ∃ sgn : Int, v = .int sgn ∧ (sgn = 1 ∨ sgn = -1) ∧ sgn * ((PySem.NumText.digitsVal u : Nat) : Int) = sg (strip (TL.tl z)).1 (PySem.NumText.digitsVal u)) (fun v H3 h3 => ?_) (fun Q' hQ => ?_)
          rotate_left
          · refine ⟨.str z, rfl, rfl, z, "-", rfl, rfl, _, rfl, ?_⟩
            rw [sw_minus]
            cases hm : (strip (TL.tl z)).1 with
            | true => exact ifT rfl ⟨1, rfl, hQ _ _ ⟨rfl, -1, rfl, .inr rfl, by rw [hm]; show -1 * _ = -_; omega⟩⟩
            | false => exact ifF rfl (hQ _ _ ⟨rfl, 1, rfl, .inl rfl, by rw [hm]; show (1 : Int) * ((PySem.NumText.digitsVal u : Nat) : Int) = ((PySem.NumText.digitsVal u : Nat) : Int); omega⟩)
          obtain ⟨rfl, sgn, rfl, hs1, hs2⟩ := h3
          refine ⟨.int sgn, rfl, .str (SX.S u), rfl, SX.S u, _, rfl, iu, lu, sgn, _, rfl, rfl, .inl ⟨by omega, by omega⟩, .str (SX.S w0), rfl, SX.S w0, _, rfl, iw, lw, _, _, rfl, by omega, hB, fun p np => ?_⟩
          rw [hs2]
          have hn : (sg (strip (TL.tl z)).1 (PySem.NumText.digitsVal u)).natAbs < 2 ^ 100 := by
            unfold sg
            split <;> omega
          have sp := Same.new (o := .tup [.int (red (sg (strip (TL.tl z)).1 (PySem.NumText.digitsVal u)) ((PySem.NumText.digitsVal w0 : Nat) : Int)).1, .int (red (sg (strip (TL.tl z)).1 (PySem.NumText.digitsVal u)) ((PySem.NumText.digitsVal w0 : Nat) : Int)).2]) np
          have r1 := red_le1 (n := sg (strip (TL.tl z)).1 (PySem.NumText.digitsVal u)) (d := ((PySem.NumText.digitsVal w0 : Nat) : Int)) (by omega)
          have r2 := red_le2 (n := sg (strip (TL.tl z)).1 (PySem.NumText.digitsVal u)) (d := ((PySem.NumText.digitsVal w0 : Nat) : Int)) (by omega)
          have up : ∀ {k : Nat}, k < 2 ^ 100 → k < 2 ^ 1000 := fun h => Nat.lt_of_lt_of_le h (Nat.pow_le_pow_right (by decide) (by decide))
          generalize red (sg (strip (TL.tl z)).1 (PySem.NumText.digitsVal u)) ((PySem.NumText.digitsVal w0 : Nat) : Int) = f at *
          refine ⟨.ref p, rfl, .ref p, f.1, f.2, rfl, ⟨p, rfl, SqT.of upd_same⟩, up (by omega), up (by omega), .str z, rfl, rfl, _, rfl, ite2 (fun e => ?_) (fun e => ?_)⟩
          · have ne : ¬ fmtL f = TL.tl z := fun y => by
              have t : V.str (SX.S (fmtL (f.1, f.2))) = V.str z := by rw [show fmtL (f.1, f.2) = TL.tl z from y, SX.S_tl]
              rw [decide_eq_true t] at e
              cases e
            rw [if_neg ne] at hP
            exact raise_pe T (s2.trans sp) (bad _ (s2.trans sp) hP)
          · have y : fmtL f = TL.tl z := by
              by_cases q : fmtL f = TL.tl z
              · exact q
              · have t : ¬ V.str (SX.S (fmtL (f.1, f.2))) = V.str z := fun y => q (congrArg TL.tl (V.str.inj y))
                rw [decide_eq_false t] at e
                exact absurd rfl e
            rw [if_pos y] at hP
            exact ⟨.ref p, rfl, w f hP p _ (s2.trans sp) (SqT.of upd_same)⟩
theorem ok_p_parse_fraction (T : Txt K mg a) : FnOk P w K mg base CX0 3 a.f_p_parse_fraction a.fd_p_parse_fraction ["text"] (sp_p_parse_fraction K) := (okx_p_parse_fraction T).imp (fun vs H Q E h => by
  obtain ⟨z, f, rfl, hz, e, w⟩ := h
  exact ⟨z, rfl, hz, fun g eg => by rw [e] at eg; cases eg; exact w, fun n => by rw [e] at n; cases n⟩)
end
section
variable {P : Program} {w : World} {K : PySem.W.Frag} {mg : Str → Option Value} {base : Heap} {a : Ad}
def sp_p_is_valid_name (K : PySem.W.Frag) : Sp := fun vs H Q _ => ∃ v, vs = [v] ∧ ((∃ z : Str, v = .str z ∧ z.length ≤ 100000 ∧ ∀ H', Same H H' → Q (.bl (nameB z)) H') ∨ ∃ t, TyX K H v (.type t) ∧ kitB t "str" = some false ∧ Q (.bl false) H)

theorem ok_p_is_valid_name (T : Txt K mg a) : FnOk P w K mg base CX0 1 a.f_p_is_valid_name a.fd_p_is_valid_name ["thing"] (sp_p_is_valid_name K) := by
  refine T.F_p_is_valid_name.ok sc_p_is_valid_name (fun vs H Q E h => ?_) (fun cdv A outer s H vs Q E hr h => ?_)
  · obtain ⟨v, rfl, _⟩ := h
    rfl
  · obtain ⟨v, rfl, h⟩ := h
    refine ⟨_, (pss_cons (ps_if (PW.pt (pw_or (pt_not (pt_val (pe_callB call_isi (by rfl) T.n_isinstance (by decide +kernel) (pa_cons (pv 0) (pa_cons (pe_bltn (v := .ty "str") (by rfl) T.n_str (by decide +kernel) rfl) pa_nil))))) (pw_or1 (pt_not (pt_chain op_le op_le pe_int (pe_callB call_len (by rfl) T.n_len (by decide +kernel) (pa_cons (pv 0) pa_nil)) (pe_glob (v := .int 6) (by rfl) T.c_MAX_NAME ⟨_, rfl⟩)))))) (pss_one (ps_ret pe_bl)) pss_nil)
          (pss_one (ps_ret (pe_and (pe_callB (cr_all rfl) (by rfl) T.n_all (by decide +kernel) (pa_cons (pe_lc (own := [("letter", 1)]) (g := gName 1) rfl sc_p_is_valid_name.nd (pi_str (pv 0)) (blkOk_by (own := [("letter", 1)]) (N := ["thing", "letter"]) (sc := defScope s_p_is_valid_name) (by decide +kernel)) (fun _ _ _ _ _ => (pg_name (i := 1) sc_p_is_valid_name.nd rfl (Or.inl rfl))) (fun _ _ _ _ _ => pts_nil) (fun _ _ _ _ _ => (pe_chain op_le_str op_le_str pe_str (pv 1) pe_str))) pa_nil)) (pe_one (pe_cmpR op_notIn_seq (pv 0) (pe_glob (v := .ref a.o_KEYWORDS) (by rfl) T.c_KEYWORDS rfl) (by rfl))))))), ?_⟩
    rcases h with ⟨z, rfl, hz, w⟩ | ⟨t, ty, hk, w⟩
    rotate_left
    · exact ⟨v, rfl, _, _, _, _, _, rfl, .ty _, ty, kit_ty hk, false, rfl, iteT (iteT w)⟩
    refine ⟨.str z, rfl, _, _, _, _, true, rfl, .ty _, .base (.str z), kit_ty (by decide +kernel), true, rfl, iteF ?_⟩
    have no : nameB z = false → Q (.bl false) H := fun e => by
      have := w H (Same.refl H)
      rw [e] at this
      exact this
    refine ⟨.str z, rfl, .str z, z.length, rfl, ⟨sz hz, rfl⟩, 1, (z.length : Int), rfl, rfl, _, rfl, ite2 (fun e1 => ?_) (fun e1 => ?_)⟩
    rotate_left
    · refine ⟨false, rfl, iteT (no ?_)⟩
      have : ¬ 1 ≤ z.length := fun y => e1 (decide_eq_true (by omega))
      unfold nameB
      rw [decide_eq_false this]
      rfl
    have l1 : 1 ≤ z.length := by have := of_decide_eq_true e1; omega
    by_cases l2 : z.length ≤ 6
    rotate_left
    · refine ⟨(z.length : Int), 6, rfl, rfl, false, congrArg V.bl (decide_eq_false (by omega)), iteT (no ?_)⟩
      unfold nameB
      rw [decide_eq_true l1, decide_eq_false l2]
      rfl
    refine ⟨(z.length : Int), 6, rfl, rfl, true, congrArg V.bl (decide_eq_true (by omega)), iteF ?_⟩
    refine ⟨.str z, rfl, z, rfl, fun D nD => ?_⟩
    refine ⟨fun i m H1 => i + m = z.length ∧ Same H H1 ∧ H1 D = some (.lst (((z.cps.toList.take i).map lowB).map V.bl)), ⟨z.length, by omega, Same.new nD, by rw [upd_same]; rfl⟩, fun i m H1 hW => ?_⟩
    obtain ⟨em, s1, hD⟩ := hW
    by_cases hi : i < z.length
    · refine .inr ⟨(show i < z.cps.size from hi), fun H2 => Same H H2 ∧ H2 D = some (.lst (((z.cps.toList.take (i + 1)).map lowB).map V.bl)), fun H2 hN => ⟨m - 1, by omega, by omega, hN.1, hN.2⟩, fun v H2 hy => ?_⟩
      obtain ⟨rfl, c, hc, rfl⟩ := hy
      have hc2 : z.cps.toList[i]? = some c := by rw [Array.getElem?_toList]; exact hc
      have fin : ∀ b : Bool, b = lowB c → ∃ acc, H2 D = some (.lst acc) ∧ acc.length < sizeLine ∧ Same H (upd H2 D (.lst (acc ++ [V.bl b]))) ∧ (upd H2 D (.lst (acc ++ [V.bl b]))) D = some (.lst (((z.cps.toList.take (i + 1)).map lowB).map V.bl)) := by
        intro b hb
        refine ⟨_, hD, ?_, fun x o e => ?_, ?_⟩
        · rw [List.length_map, List.length_map, List.length_take]
          exact szl (by omega)
        · rw [upd_ne (ne_of_none e nD)]
          exact s1 _ _ e
        · rw [upd_same, hb, tk_more hc2, List.map_append]
          rfl
      refine ⟨rfl, tYes_if ?_⟩
      refine ⟨.str ⟨#[c]⟩, rfl, "a", ⟨#[c]⟩, rfl, rfl, _, rfl, ?_⟩
      rw [le_a]
      refine ite2 (fun e => ?_) (fun e => ?_)
      · refine ⟨⟨#[c]⟩, "z", rfl, rfl, ?_⟩
        refine fin _ ?_
        rw [le_z]
        unfold lowB
        rw [e, Bool.true_and]
      · refine fin _ ?_
        unfold lowB
        rw [Bool.eq_false_iff.mpr e]
        rfl
    · have ei : i = z.length := by omega
      subst ei
      refine .inl ⟨(show z.cps.size ≤ z.length from Nat.le_refl _), ?_⟩
      rw [show z.cps.toList.take z.length = z.cps.toList by rw [← cps_len, List.take_length]] at hD
      refine ⟨D, z.cps.toList.map lowB, rfl, SqL.of hD, _, rfl, ?_⟩
      have ea : (z.cps.toList.map lowB).all id = z.cps.toList.all lowB := by rw [List.all_map]; rfl
      rw [ea]
      refine ite2 (fun e => ?_) (fun e => ?_)
      · refine ⟨.str z, rfl, a.o_KEYWORDS, kws4, rfl, .inr (T.t_KEYWORDS H1), rfl, rfl, ?_⟩
        have := w H1 s1
        unfold nameB at this
        rw [decide_eq_true l1, decide_eq_true l2, e] at this
        exact this
      · have := w H1 s1
        unfold nameB at this
        rw [decide_eq_true l1, decide_eq_true l2, Bool.eq_false_iff.mpr e] at this
        exact this
end
section
variable {P : Program} {w : World} {K : PySem.W.Frag} {mg : Str → Option Value} {base : Heap} {a : Ad}
def sp_p_is_number (K : PySem.W.Frag) : Sp := fun vs H Q _ => ∃ i : Int, vs = [.int i] ∧ Q (.bl true) H

theorem ok_p_is_number (T : Txt K mg a) : FnOk P w K mg base CX0 1 a.f_p_is_number a.fd_p_is_number ["thing"] (sp_p_is_number K) := by
  refine T.F_p_is_number.ok sc_p_is_number (fun vs H Q E h => ?_) (fun cdv A outer s H vs Q E hr h => ?_)
  · obtain ⟨i, rfl, _⟩ := h
    rfl
  · obtain ⟨i, rfl, w⟩ := h
    refine ⟨_, (pss_one (ps_ret (pe_and (pe_callB call_isi (by rfl) T.n_isinstance (by decide +kernel) (pa_cons (pv 0) (pa_cons (pe_bltn (v := .ty "int") (by rfl) T.n_int (by decide +kernel) rfl) pa_nil))) (pe_one (pe_not (pe_callB call_isi (by rfl) T.n_isinstance (by decide +kernel) (pa_cons (pv 0) (pa_cons (pe_bltn (v := .ty "bool") (by rfl) T.n_bool (by decide +kernel) rfl) pa_nil)))))))), ?_⟩
    exact ⟨.int i, rfl, _, _, _, _, true, rfl, .ty _, .base (.int i), kit_ty (by decide +kernel), true, rfl, ifT rfl ⟨.int i, rfl, _, _, _, _, false, rfl, .ty _, .base (.int i), kit_ty (by decide +kernel), false, rfl, w⟩⟩
end
section
variable {P : Program} {w : World} {K : PySem.W.Frag} {mg : Str → Option Value} {base : Heap} {a : Ad}
def sp_p_is_term_fraction (K : PySem.W.Frag) : Sp := fun vs H Q _ => ∃ (v : V) (f : QQ), vs = [v] ∧ FrW K H v f ∧ ∀ H', Same H H' → Q (.bl (fracB f)) H'

theorem ok_p_is_term_fraction (T : Txt K mg a) : FnOk P w K mg base CX0 3 a.f_p_is_term_fraction a.fd_p_is_term_fraction ["thing"] (sp_p_is_term_fraction K) := by
  have G_p_is_number := ok_p_is_number (P := P) (w := w) (base := base) T
  have G_p_fraction := ok_p_fraction (P := P) (w := w) (base := base) T
  obtain ⟨_, v_p_fraction_2, b_p_fraction_2⟩ := T.b_p_fraction_2
  refine T.F_p_is_term_fraction.ok sc_p_is_term_fraction (fun vs H Q E h => ?_) (fun cdv A outer s H vs Q E hr h => ?_)
  · obtain ⟨v, f, rfl, _⟩ := h
    rfl
  · obtain ⟨v, f, rfl, ⟨⟨p, rfl, hp⟩, nB, dB⟩, w⟩ := h
    refine ⟨_, (pss_cons (ps_if (PW.pt (pw_or (pt_not (pt_val (pe_callB call_isi (by rfl) T.n_isinstance (by decide +kernel) (pa_cons (pv 0) (pa_cons (pe_bltn (v := .ty "tuple") (by rfl) T.n_tuple (by decide +kernel) rfl) pa_nil))))) (pw_or1 (pt_cmpR op_ne (pe_callB call_len (by rfl) T.n_len (by decide +kernel) (pa_cons (pv 0) pa_nil)) pe_int (nomark _))))) (pss_one (ps_ret pe_bl)) pss_nil)
          (pss_cons (ps_asg (pv 0) (pg_tup rfl (pgs_cons (pg_name (i := 1) sc_p_is_term_fraction.nd rfl (by first | exact Or.inl rfl | exact Or.inr rfl)) (pgs_cons (pg_name (i := 2) sc_p_is_term_fraction.nd rfl (by first | exact Or.inl rfl | exact Or.inr rfl)) pgs_nil))))
          (pss_cons (ps_if (PW.pt (pw_or (pt_not (pt_val (pe_call G_p_is_number (hr.mono (by first | decide | omega)) (by rfl) T.g_p_is_number T.F_p_is_number.kp T.b_p_is_number .nil pass0 (pa_cons (pv 1) pa_nil)))) (pw_or1 (pt_not (pt_val (pe_call G_p_is_number (hr.mono (by first | decide | omega)) (by rfl) T.g_p_is_number T.F_p_is_number.kp T.b_p_is_number .nil pass0 (pa_cons (pv 2) pa_nil))))))) (pss_one (ps_ret pe_bl)) pss_nil)
          (pss_one (ps_ret (pe_and (pe_cmpR op_le (pe_callB call_abs (by rfl) T.n_abs (by decide +kernel) (pa_cons (pv 1) pa_nil)) (pe_glob (v := .int 999999999999) (by rfl) T.c_MAX_SIDE ⟨_, rfl⟩) (nomark _)) (pe_and (pe_chain op_le op_le pe_int (pv 2) (pe_glob (v := .int 999999999999) (by rfl) T.c_MAX_SIDE ⟨_, rfl⟩)) (pe_one (pe_cmpR (op_eqD hr.units) (pe_call G_p_fraction (hr.mono (by first | decide | omega)) (by rfl) T.g_p_fraction T.F_p_fraction.kp b_p_fraction_2 v_p_fraction_2 pass0 (pa_cons (pv 1) (pa_cons (pv 2) pa_nil))) (pv 0) (nomark _)))))))))), ?_⟩
    refine ⟨.ref p, rfl, _, _, _, _, true, rfl, .ty _, tyT hp, kit_ty (by decide +kernel), true, rfl, iteF ?_⟩
    refine ⟨.ref p, rfl, .ref p, 2, rfl, .inr ⟨_, hp, rfl⟩, rfl, _, rfl, ifF (by decide) ?_⟩
    refine ⟨.ref p, rfl, p, _, rfl, hp, rfl, _, _, rfl, _, _, rfl, rfl, ?_⟩
    refine ⟨.int f.1, rfl, f.1, rfl, true, rfl, iteF ⟨.int f.2, rfl, f.2, rfl, true, rfl, iteF ?_⟩⟩
    have w0 := w H (Same.refl H)
    unfold fracB at w0 w
    refine ⟨.int f.1, rfl, f.1, rfl, _, 999999999999, rfl, rfl, _, rfl, ?_⟩
    rw [absL]
    cases h1 : decide (f.1.natAbs ≤ 999999999999) with
    | false =>
      refine ifF rfl ?_
      rw [h1, Bool.false_and, Bool.false_and] at w0
      exact w0
    | true =>
      rw [h1, Bool.true_and] at w0 w
      refine ifT rfl ⟨.int f.2, rfl, 1, f.2, rfl, rfl, _, rfl, ?_⟩
      cases h2 : decide (1 ≤ f.2) with
      | false =>
        rw [h2, Bool.false_and, Bool.false_and] at w0
        exact ifF rfl ⟨false, rfl, ifF rfl w0⟩
      | true =>
        refine ifT rfl ⟨f.2, 999999999999, rfl, rfl, ?_⟩
        rw [h2, Bool.true_and] at w0 w
        refine ⟨_, rfl, ?_⟩
        cases h3 : decide (f.2 ≤ 999999999999) with
        | false =>
          rw [h3, Bool.false_and] at w0
          exact ifF rfl w0
        | true =>
          rw [h3, Bool.true_and] at w
          have d1 := of_decide_eq_true h2
          refine ifT rfl ⟨.int f.1, rfl, .int f.2, rfl, f.1, f.2, rfl, by omega, Nat.lt_of_lt_of_le dB (Nat.pow_le_pow_right (by decide) (by decide)), fun q nq => ?_⟩
          have sq := Same.new (o := .tup [.int (red f.1 f.2).1, .int (red f.1 f.2).2]) nq
          refine ⟨.ref p, rfl, .tuple [.int (red f.1 f.2).1, .int (red f.1 f.2).2], .tuple [.int f.1, .int f.2], .tup (SqT.of upd_same) (.cons (.int _) (.cons (.int _) .nil)), .tup (Same.T sq hp) (.cons (.int _) (.cons (.int _) .nil)), rfl, rfl, ?_⟩
          rw [fr_eqv]
          exact w _ sq
end
section
variable {P : Program} {w : World} {K : PySem.W.Frag} {mg : Str → Option Value} {base : Heap} {a : Ad}
def sp_p_is_weighted (K : PySem.W.Frag) : Sp := fun vs H Q _ => ∃ (q : Addr) (wv x : V) (f : QQ), vs = [.ref q] ∧ SqT K H q [wv, x] ∧ FrW K H wv f ∧ ∀ H', Same H H' → Q (.bl (wB f)) H'

theorem ok_p_is_weighted (T : Txt K mg a) : FnOk P w K mg base CX0 4 a.f_p_is_weighted a.fd_p_is_weighted ["pair"] (sp_p_is_weighted K) := by
  have G_p_is_term_fraction := ok_p_is_term_fraction (P := P) (w := w) (base := base) T
  have G_p_is_less := ok_p_is_less (P := P) (w := w) (base := base) T
  refine T.F_p_is_weighted.ok sc_p_is_weighted (fun vs H Q E h => ?_) (fun cdv A outer s H vs Q E hr h => ?_)
  · obtain ⟨q, wv, x, f, rfl, _⟩ := h
    rfl
  · obtain ⟨q, wv, x, f, rfl, hq, hf, w⟩ := h
    refine ⟨_, (pss_cons (ps_if (PW.pt (pw_or (pt_not (pt_val (pe_callB call_isi (by rfl) T.n_isinstance (by decide +kernel) (pa_cons (pv 0) (pa_cons (pe_bltn (v := .ty "tuple") (by rfl) T.n_tuple (by decide +kernel) rfl) pa_nil))))) (pw_or1 (pt_cmpR op_ne (pe_callB call_len (by rfl) T.n_len (by decide +kernel) (pa_cons (pv 0) pa_nil)) pe_int (nomark _))))) (pss_one (ps_ret pe_bl)) pss_nil)
          (pss_one (ps_ret (pe_and (pe_call G_p_is_term_fraction (hr.mono (by first | decide | omega)) (by rfl) T.g_p_is_term_fraction T.F_p_is_term_fraction.kp T.b_p_is_term_fraction .nil pass0 (pa_cons (pe_ix ix_tup (pv 0) pe_int (fun _ _ => rfl)) pa_nil)) (pe_one (pe_call G_p_is_less (hr.mono (by first | decide | omega)) (by rfl) T.g_p_is_less T.F_p_is_less.kp T.b_p_is_less .nil pass0 (pa_cons (pe_glob (v := .ref a.o_ZERO) (by rfl) T.c_ZERO rfl) (pa_cons (pe_ix ix_tup (pv 0) pe_int (fun _ _ => rfl)) pa_nil)))))))), ?_⟩
    refine ⟨.ref q, rfl, _, _, _, _, true, rfl, .ty _, tyT hq, kit_ty (by decide +kernel), true, rfl, iteF ?_⟩
    refine ⟨.ref q, rfl, .ref q, 2, rfl, .inr ⟨_, hq, rfl⟩, rfl, _, rfl, ifF (by decide) ?_⟩
    unfold wB at w
    refine ⟨.ref q, rfl, q, _, 0, _, rfl, rfl, hq, rfl, wv, f, rfl, hf, fun H1 s1 => ⟨_, rfl, ?_⟩⟩
    cases h : fracB f with
    | false =>
      have := w H1 s1
      rw [h, Bool.false_and] at this
      exact ifF rfl this
    | true =>
      obtain ⟨d0, g⟩ := fracB_low h
      have hf1 := hf.same s1
      have up : ∀ {k : Nat}, k < 2 ^ 120 → k < 2 ^ 20000 := fun z => Nat.lt_of_lt_of_le z (Nat.pow_le_pow_right (by decide) (by decide))
      refine ifT rfl ⟨.ref q, rfl, q, _, 0, _, rfl, rfl, Same.T s1 hq, rfl, .ref a.o_ZERO, wv, (0, 1), f, rfl, ⟨⟨_, rfl, T.t_ZERO _⟩, by decide, by decide, up (by decide), up (by decide)⟩, ⟨hf1.fr, d0, g, up hf1.nB, up hf1.dB⟩, ?_⟩
      have := w H1 s1
      rw [h, Bool.true_and] at this
      have e : rlt (0, 1) f = decide (0 < f.1) := decide_eq_decide.mpr (by show 0 * f.2 < f.1 * 1 ↔ _; omega)
      rw [e]
      exact this
end
section
variable {P : Program} {w : World} {K : PySem.W.Frag} {mg : Str → Option Value} {base : Heap} {a : Ad}
/-- pairs of weights and anything -/
def Prs (K : PySem.W.Frag) (H : Hp) (ys : List V) (ws : List QQ) : Prop := ys.length = ws.length ∧ ∀ (i : Nat) y f, ys[i]? = some y → ws[i]? = some f → ∃ q wv x, y = .ref q ∧ SqT K H q [wv, x] ∧ FrW K H wv f
theorem Prs.same {K : PySem.W.Frag} {H H' : Hp} {ys : List V} {ws : List QQ} (h : Prs K H ys ws) (s : Same H H') : Prs K H' ys ws := ⟨h.1, fun i y f a b => by
  obtain ⟨q, wv, x, e, h1, h2⟩ := h.2 i y f a b
  exact ⟨q, wv, x, e, Same.T s h1, h2.same s⟩⟩
def sp_p_is_mixture (K : PySem.W.Frag) : Sp := fun vs H Q _ => ∃ (p : Addr) (ys : List V) (ws : List QQ), vs = [.ref p] ∧ SqT K H p ys ∧ Prs K H ys ws ∧ ys.length ≤ 60 ∧ ∀ H', Same H H' → Q (.bl (mixB ws)) H'

theorem ok_p_is_mixture (T : Txt K mg a) : FnOk P w K mg base CX0 5 a.f_p_is_mixture a.fd_p_is_mixture ["pairs"] (sp_p_is_mixture K) := by
  have G_p_total := ok_p_total (P := P) (w := w) (base := base) T
  have G_p_is_weighted := ok_p_is_weighted (P := P) (w := w) (base := base) T
  obtain ⟨_, v_p_total_1, b_p_total_1⟩ := T.b_p_total_1
  refine T.F_p_is_mixture.ok sc_p_is_mixture (fun vs H Q E h => ?_) (fun cdv A outer s H vs Q E hr h => ?_)
  · obtain ⟨p, ys, ws, rfl, _⟩ := h
    rfl
  · obtain ⟨p, ys, ws, rfl, hp, hP, h60, w⟩ := h
    refine ⟨_, (pss_cons (ps_if (pt_not (pt_val (pe_callB (cr_all rfl) (by rfl) T.n_all (by decide +kernel) (pa_cons (pe_lc (own := [("pair", 1)]) (g := gName 1) rfl sc_p_is_mixture.nd (pi_tup (pv 0)) (blkOk_by (own := [("pair", 1)]) (N := ["pairs", "pair"]) (sc := defScope s_p_is_mixture) (by decide +kernel)) (fun _ _ _ _ _ => (pg_name (i := 1) sc_p_is_mixture.nd rfl (Or.inl rfl))) (fun _ _ _ _ _ => pts_nil) (fun _ _ _ _ _ => (pe_call G_p_is_weighted (hr.mono (by first | decide | omega)) (by rfl) T.g_p_is_weighted T.F_p_is_weighted.kp T.b_p_is_weighted .nil pass0 (pa_cons (pv 1) pa_nil)))) pa_nil)))) (pss_one (ps_ret pe_bl)) pss_nil)
          (pss_one (ps_ret (pe_cmpR (op_eqD hr.units) (pe_call G_p_total (hr.mono (by first | decide | omega)) (by rfl) T.g_p_total T.F_p_total.kp b_p_total_1 v_p_total_1 pass0 (pa_cons (pe_lc (own := [("pair", 1)]) (g := gName 1) rfl sc_p_is_mixture.nd (pi_tup (pv 0)) (blkOk_by (own := [("pair", 1)]) (N := ["pairs", "pair"]) (sc := defScope s_p_is_mixture) (by decide +kernel)) (fun _ _ _ _ _ => (pg_name (i := 1) sc_p_is_mixture.nd rfl (Or.inl rfl))) (fun _ _ _ _ _ => pts_nil) (fun _ _ _ _ _ => (pe_ix (ixT (K := K) rfl) (pv 1) pe_int (fun _ _ => rfl)))) pa_nil)) (pe_tup (pa_cons pe_int (pa_cons pe_int pa_nil))) (nomark _))))), ?_⟩
    have hl := hP.1
    refine ⟨.ref p, rfl, p, rfl, ⟨_, hp⟩, fun D nD => ?_⟩
    refine lc_tup (K := K) (a := p) (xs := ys) (fun i H1 => Same H H1 ∧ H1 D = some (.lst (((ws.take i).map wB).map V.bl))) ⟨Same.new nD, upd_same⟩ (fun i H1 _ h1 => Same.T h1.1 hp) ?_ ?_
    · rintro i y H1 hy ⟨s1, hD⟩
      have il : i < ys.length := (List.getElem?_eq_some_iff.mp hy).1
      have hf : ws[i]? = some (ws[i]'(by omega)) := List.getElem?_eq_getElem _
      obtain ⟨q, wv, x, rfl, hq, fw⟩ := (hP.same s1).2 i y _ hy hf
      refine ⟨rfl, tYes_if ⟨.ref q, rfl, q, wv, x, _, rfl, hq, fw, fun H2 s2 => ?_⟩⟩
      refine ⟨_, s2 _ _ hD, by rw [List.length_map, List.length_map, List.length_take]; exact szl (by omega), fun b o e => ?_, ?_⟩
      · rw [upd_ne (ne_of_none e nD)]; exact s2 _ _ (s1 _ _ e)
      · rw [upd_same, tk_more hf, List.map_append]; rfl
    rintro H1 ⟨s1, hD⟩
    rw [hl, List.take_length] at hD
    refine ⟨D, _, rfl, SqL.of hD, ?_⟩
    have ea : (ws.map wB).all id = ws.all (fun w => fracB w && decide (0 < w.1)) := by rw [List.all_map]; rfl
    rw [ea]
    unfold mixB at w
    cases ha : ws.all (fun w => fracB w && decide (0 < w.1)) with
    | false =>
      have := w H1 s1
      rw [ha, Bool.false_and] at this
      exact ⟨false, rfl, iteT this⟩
    | true =>
      rw [ha, Bool.true_and] at w
      refine ⟨true, rfl, iteF ?_⟩
      refine ⟨.ref p, rfl, p, rfl, ⟨_, Same.T s1 hp⟩, fun L nL => ?_⟩
      refine lc_tup (K := K) (a := p) (xs := ys) (fun i H2 => Same H1 H2 ∧ ∃ vs, H2 L = some (.lst vs) ∧ Frs K H2 vs (ws.take i) 40) ⟨Same.new nL, [], upd_same, Frs.nil'⟩ (fun i H2 _ h2 => Same.T (s1.trans h2.1) hp) ?_ ?_
      · rintro i y H2 hy ⟨s2, vs, hL, hF⟩
        have il : i < ys.length := (List.getElem?_eq_some_iff.mp hy).1
        have hf : ws[i]? = some (ws[i]'(by omega)) := List.getElem?_eq_getElem _
        obtain ⟨q, wv, x, rfl, hq, fw⟩ := (hP.same (s1.trans s2)).2 i y _ hy hf
        have vl := hF.1
        have ok := List.all_eq_true.mp ha _ (List.mem_of_getElem? hf)
        rw [Bool.and_eq_true] at ok
        obtain ⟨d0, g⟩ := fracB_low ok.1
        refine ⟨rfl, tYes_if ⟨.ref q, rfl, q, _, 0, _, rfl, rfl, hq, rfl, vs, hL, by rw [vl, List.length_take]; exact szl (by omega), fun b o e => ?_, vs ++ [wv], upd_same, ?_⟩⟩
        · rw [upd_ne (ne_of_none e nL)]; exact s2 _ _ e
        · rw [List.take_add_one, hf]
          exact (hF.app' (Frs.one' ⟨fw.fr, d0, g, (fracB_bd ok.1).1, (fracB_bd ok.1).2⟩)).put' hL
      rintro H2 ⟨s2, vs, hL, hF⟩
      rw [hl, List.take_length] at hF
      refine ⟨L, vs, ws, .ref a.o_ZERO, (0, 1), rfl, .inl (SqL.of hL), hF, by rw [hF.1]; omega, ⟨⟨_, rfl, T.t_ZERO _⟩, by decide, by decide, by decide, by decide⟩, fun v H3 s3 fv => ?_⟩
      refine ⟨sz (by show 2 ≤ 100000; decide), fun e ne => ?_⟩
      obtain ⟨pv, rfl, hpv⟩ := fv.fr
      have s4 := Same.new (o := .tup [.int 1, .int 1]) ne
      refine ⟨.tuple [.int (ws.foldl radd (0, 1)).1, .int (ws.foldl radd (0, 1)).2], .tuple [.int 1, .int 1], .tup (Same.T s4 hpv) (.cons (.int _) (.cons (.int _) .nil)), .tup (SqT.of upd_same) (.cons (.int _) (.cons (.int _) .nil)), rfl, rfl, ?_⟩
      have e2 := fr_eqv (ws.foldl radd (0, 1)) (1, 1)
      have e3 : PyData.eqv (.tuple [.int (ws.foldl radd (0, 1)).1, .int (ws.foldl radd (0, 1)).2]) (.tuple [.int 1, .int 1]) = decide (ws.foldl radd (0, 1) = (1, 1)) := e2
      rw [e3]
      exact w _ (s1.trans (s2.trans (s3.trans s4)))
end
section
variable {P : Program} {w : World} {K : PySem.W.Frag} {mg : Str → Option Value} {base : Heap} {a : Ad}
def sp_p_has_term_form (K : PySem.W.Frag) : Sp := fun vs H Q _ => ∃ (v : V) (t : Rw) (n : Nat), vs = [v] ∧ RwAt K H (n + 1) v t ∧ ∀ H', Same H H' → Q (.bl t.form) H'

theorem ok_p_has_term_form (T : Txt K mg a) : FnOk P w K mg base CX0 6 a.f_p_has_term_form a.fd_p_has_term_form ["thing"] (sp_p_has_term_form K) := by
  have G_p_is_valid_name := ok_p_is_valid_name (P := P) (w := w) (base := base) T
  have G_p_is_term_fraction := ok_p_is_term_fraction (P := P) (w := w) (base := base) T
  have G_p_is_mixture := ok_p_is_mixture (P := P) (w := w) (base := base) T
  refine T.F_p_has_term_form.ok sc_p_has_term_form (fun vs H Q E h => ?_) (fun cdv A outer s H vs Q E hr h => ?_)
  · obtain ⟨v, t, n, rfl, _⟩ := h
    rfl
  · obtain ⟨v, t, n, rfl, ht, w⟩ := h
    refine ⟨_, (pss_cons (ps_if (PW.pt (pw_or (pt_not (pt_val (pe_callB call_isi (by rfl) T.n_isinstance (by decide +kernel) (pa_cons (pv 0) (pa_cons (pe_bltn (v := .ty "tuple") (by rfl) T.n_tuple (by decide +kernel) rfl) pa_nil))))) (pw_or1 (pt_cmpR op_eq (pe_callB call_len (by rfl) T.n_len (by decide +kernel) (pa_cons (pv 0) pa_nil)) pe_int (nomark _))))) (pss_one (ps_ret pe_bl)) pss_nil)
          (pss_cons (ps_set (i := 1) sc_p_has_term_form.nd rfl (by first | exact Or.inl rfl | exact Or.inr rfl) (pe_ix ix_tup (pv 0) pe_int (fun _ _ => rfl)))
          (pss_cons (ps_set (i := 2) sc_p_has_term_form.nd rfl (by first | exact Or.inl rfl | exact Or.inr rfl) (pe_op op_sub (pe_callB call_len (by rfl) T.n_len (by decide +kernel) (pa_cons (pv 0) pa_nil)) pe_int))
          (pss_cons (ps_if (pt_cmpR op_eq (pv 1) pe_str (nomark _)) (pss_one (ps_ret (pe_and (pe_cmpR op_eq (pv 2) pe_int (nomark _)) (pe_one (pe_call G_p_is_valid_name (hr.mono (by first | decide | omega)) (by rfl) T.g_p_is_valid_name T.F_p_is_valid_name.kp T.b_p_is_valid_name .nil pass0 (pa_cons (pe_ix ix_tup (pv 0) pe_int (fun _ _ => rfl)) pa_nil)))))) pss_nil)
          (pss_cons (ps_if (pt_cmpR op_eq (pv 1) pe_str (nomark _)) (pss_one (ps_ret (pe_and (pe_cmpR op_eq (pv 2) pe_int (nomark _)) (pe_one (pe_call G_p_is_term_fraction (hr.mono (by first | decide | omega)) (by rfl) T.g_p_is_term_fraction T.F_p_is_term_fraction.kp T.b_p_is_term_fraction .nil pass0 (pa_cons (pe_ix ix_tup (pv 0) pe_int (fun _ _ => rfl)) pa_nil)))))) pss_nil)
          (pss_cons (ps_if (pt_cmpR op_eq (pv 1) pe_str (nomark _)) (pss_one (ps_ret (pe_cmpR op_eq (pv 2) pe_int (nomark _)))) pss_nil)
          (pss_cons (ps_if (pt_cmpR op_eq (pv 1) pe_str (nomark _)) (pss_one (ps_ret (pe_and (pe_chain op_le op_le pe_int (pv 2) (pe_glob (v := .int 6) (by rfl) T.c_MAX_OPERANDS ⟨_, rfl⟩)) (pe_one (pe_call G_p_is_mixture (hr.mono (by first | decide | omega)) (by rfl) T.g_p_is_mixture T.F_p_is_mixture.kp T.b_p_is_mixture .nil pass0 (pa_cons (pe_slice sl_tup (pv 0) (po_some pe_int) po_none) pa_nil)))))) pss_nil)
          (pss_one (ps_ret (pe_and (pe_cmpR op_in_seq (pv 1) (pe_tup (pa_cons pe_str (pa_cons pe_str pa_nil))) (by rfl)) (pe_one (pe_chain op_le op_le pe_int (pv 2) (pe_glob (v := .int 6) (by rfl) T.c_MAX_OPERANDS ⟨_, rfl⟩))))))))))))), ?_⟩
    obtain ⟨k, ts⟩ := t
    obtain ⟨l60, xs, hN, hA⟩ := ht
    have hlen := hA.1
    have eqi : ∀ j m : Nat, decide (V.int ((j : Nat) : Int) = V.int (m : Int)) = decide (j = m) := fun j m => decide_eq_decide.mpr ⟨fun y => by have := V.int.inj y; omega, fun y => by rw [y]⟩
    have hM : ∀ j : Nat, (((j + 1 : Nat) : Int) - 1) = ((j : Nat) : Int) := fun j => by omega
    have slot : ∀ j : Nat, (some (some (V.int (((j + 1 : Nat) : Int) - 1))) : Option (Option V)) = some (some (.int ((j : Nat) : Int))) := fun j => by rw [hM]
    match k, hN with
    | .ev ss, ⟨ex, l2, l3, p, e, hp⟩ =>
      subst e ex
      refine ⟨.ref p, rfl, _, _, _, _, true, rfl, .ty _, tyT hp, kit_ty (by decide +kernel), true, rfl, iteF ?_⟩
      refine ⟨.ref p, rfl, .ref p, ss.length + 1, rfl, .inr ⟨_, hp, by rw [List.length_cons, List.length_map]⟩, rfl, _, rfl, ifF (decide_eq_false fun y => by have := V.int.inj y; omega) ?_⟩
      refine ⟨.ref p, rfl, p, _, 0, _, rfl, rfl, hp, atI_nat (j := 0) rfl, .ref p, rfl, .ref p, ss.length + 1, rfl, .inr ⟨_, hp, by rw [List.length_cons, List.length_map]⟩, _, 1, rfl, rfl, ?_⟩
      refine ⟨_, rfl, rfl, _, rfl, ifT (decide_eq_true rfl) ?_⟩
      have w' : ∀ H', Same H H' → Q (.bl (evB ss)) H' := w
      refine ⟨.int ((ss.length : Nat) : Int), slot ss.length, rfl, _, rfl, ?_⟩
      rcases ss with _ | ⟨s, _ | ⟨s2, rest⟩⟩
      · exact ifF (by decide) (w' H (Same.refl H))
      · exact ifT (decide_eq_true rfl) ⟨.ref p, rfl, p, _, 1, _, rfl, rfl, hp, rfl, .str s, rfl, .inl ⟨s, rfl, Nat.le_trans (l3 s List.mem_cons_self) (by decide), w'⟩⟩
      · exact ifF (by
          rw [show decide (V.int (((s :: s2 :: rest).length : Nat) : Int) = V.int 1) = decide ((s :: s2 :: rest).length = 1) from eqi _ 1]
          exact decide_eq_false (by rw [List.length_cons, List.length_cons]; omega)) (w' H (Same.refl H))
    | .dl none, ⟨p, x, ex, e, hp⟩ =>
      subst e ex
      refine ⟨.ref p, rfl, _, _, _, _, true, rfl, .ty _, tyT hp, kit_ty (by decide +kernel), true, rfl, iteF ?_⟩
      refine ⟨.ref p, rfl, .ref p, 1 + 1, rfl, .inr ⟨_, hp, rfl⟩, rfl, _, rfl, ifF (decide_eq_false fun y => by have := V.int.inj y; omega) ?_⟩
      refine ⟨.ref p, rfl, p, _, 0, _, rfl, rfl, hp, atI_nat (j := 0) rfl, .ref p, rfl, .ref p, 1 + 1, rfl, .inr ⟨_, hp, rfl⟩, _, 1, rfl, rfl, ?_⟩
      refine ⟨_, rfl, rfl, _, rfl, ifF (str_no (by decide +kernel)) ⟨_, rfl, rfl, _, rfl, ifT (decide_eq_true rfl) ?_⟩⟩
      exact ⟨_, rfl, rfl, _, rfl, ifF (by decide) (w H (Same.refl H))⟩
    | .dl (some f), ⟨p, x, fv, ex, e, hp, hf⟩ =>
      subst e ex
      refine ⟨.ref p, rfl, _, _, _, _, true, rfl, .ty _, tyT hp, kit_ty (by decide +kernel), true, rfl, iteF ?_⟩
      refine ⟨.ref p, rfl, .ref p, 2 + 1, rfl, .inr ⟨_, hp, rfl⟩, rfl, _, rfl, ifF (decide_eq_false fun y => by have := V.int.inj y; omega) ?_⟩
      refine ⟨.ref p, rfl, p, _, 0, _, rfl, rfl, hp, atI_nat (j := 0) rfl, .ref p, rfl, .ref p, 2 + 1, rfl, .inr ⟨_, hp, rfl⟩, _, 1, rfl, rfl, ?_⟩
      refine ⟨_, rfl, rfl, _, rfl, ifF (str_no (by decide +kernel)) ⟨_, rfl, rfl, _, rfl, ifT (decide_eq_true rfl) ?_⟩⟩
      exact ⟨_, rfl, rfl, _, rfl, ifT (by decide) ⟨.ref p, rfl, p, _, 2, _, rfl, rfl, hp, rfl, fv, f, rfl, hf, w⟩⟩
    | .mx ws, ⟨p, ys, e, hp, l1, l2, hm⟩ =>
      subst e
      refine ⟨.ref p, rfl, _, _, _, _, true, rfl, .ty _, tyT hp, kit_ty (by decide +kernel), true, rfl, iteF ?_⟩
      refine ⟨.ref p, rfl, .ref p, ys.length + 1, rfl, .inr ⟨_, hp, by rw [List.length_cons]⟩, rfl, _, rfl, ifF (decide_eq_false fun y => by have := V.int.inj y; omega) ?_⟩
      refine ⟨.ref p, rfl, p, _, 0, _, rfl, rfl, hp, atI_nat (j := 0) rfl, .ref p, rfl, .ref p, ys.length + 1, rfl, .inr ⟨_, hp, by rw [List.length_cons]⟩, _, 1, rfl, rfl, ?_⟩
      refine ⟨_, rfl, rfl, _, rfl, ifF (str_no (by decide +kernel)) ⟨_, rfl, rfl, _, rfl, ifF (str_no (by decide +kernel)) ⟨_, rfl, rfl, _, rfl, ifF (str_no (by decide +kernel)) ⟨_, rfl, rfl, _, rfl, ifT (decide_eq_true rfl) ?_⟩⟩⟩⟩
      have w' : ∀ H', Same H H' → Q (.bl ((decide (1 ≤ ts.length) && decide (ts.length ≤ 6)) && mixB ws)) H' := w
      rw [← hlen, ← l1] at w'
      refine ⟨.int ((ys.length : Nat) : Int), slot ys.length, 1, _, rfl, rfl, _, rfl, ?_⟩
      by_cases h1 : 1 ≤ ys.length
      · refine ifT (decide_eq_true (by omega)) ⟨_, 6, rfl, rfl, ?_⟩
        rw [decide_eq_true h1, Bool.true_and] at w'
        refine ⟨_, rfl, ?_⟩
        by_cases h6 : ys.length ≤ 6
        · rw [decide_eq_true h6, Bool.true_and] at w'
          refine ifT (decide_eq_true (by omega)) ⟨.ref p, rfl, 1, rfl, p, _, rfl, hp, not_whole _ _, fun c nc => ?_⟩
          rw [cut_one]
          have sc := Same.new (o := .tup ys) nc
          refine ⟨c, ys, ws, rfl, SqT.of upd_same, ⟨by omega, fun i y f a b => ?_⟩, by omega, fun H1 s1 => w' H1 (sc.trans s1)⟩
          have il : i < ys.length := (List.getElem?_eq_some_iff.mp a).1
          have hx : xs[i]? = some (xs[i]'(by omega)) := List.getElem?_eq_getElem _
          obtain ⟨q, wv, e, h3, h4⟩ := hm i y _ f a hx b
          exact ⟨q, wv, _, e, Same.T sc h3, h4.same sc⟩
        · rw [decide_eq_false h6, Bool.false_and] at w'
          exact ifF (decide_eq_false (by omega)) (w' H (Same.refl H))
      · rw [decide_eq_false h1, Bool.false_and, Bool.false_and] at w'
        exact ifF (decide_eq_false (by omega)) ⟨false, rfl, ifF rfl (w' H (Same.refl H))⟩
    | .nn kk, ⟨n1, n2, n3, p, e, hp⟩ =>
      subst e
      refine ⟨.ref p, rfl, _, _, _, _, true, rfl, .ty _, tyT hp, kit_ty (by decide +kernel), true, rfl, iteF ?_⟩
      refine ⟨.ref p, rfl, .ref p, xs.length + 1, rfl, .inr ⟨_, hp, by rw [List.length_cons]⟩, rfl, _, rfl, ifF (decide_eq_false fun y => by have := V.int.inj y; omega) ?_⟩
      refine ⟨.ref p, rfl, p, _, 0, _, rfl, rfl, hp, atI_nat (j := 0) rfl, .ref p, rfl, .ref p, xs.length + 1, rfl, .inr ⟨_, hp, by rw [List.length_cons]⟩, _, 1, rfl, rfl, ?_⟩
      refine ⟨_, rfl, rfl, _, rfl, ifF (decide_eq_false fun y => n1 (V.str.inj y)) ⟨_, rfl, rfl, _, rfl, ifF (decide_eq_false fun y => n2 (V.str.inj y)) ?_⟩⟩
      have w' : ∀ H', Same H H' → Q (.bl (if kk = "median" then decide (ts.length = 3) else (decide (kk = "max") || decide (kk = "min")) && (decide (1 ≤ ts.length) && decide (ts.length ≤ 6)))) H' := w
      rw [← hlen] at w'
      by_cases hm : kk = "median"
      · subst hm
        rw [if_pos rfl] at w'
        refine ⟨_, rfl, rfl, _, rfl, ifT (decide_eq_true rfl) ⟨.int ((xs.length : Nat) : Int), slot xs.length, rfl, ?_⟩⟩
        have := w' H (Same.refl H)
        rw [← eqi xs.length 3] at this
        exact this
      · rw [if_neg hm] at w'
        refine ⟨_, rfl, rfl, _, rfl, ifF (decide_eq_false fun y => hm (V.str.inj y)) ⟨_, rfl, rfl, _, rfl, ifF (decide_eq_false fun y => n3 (V.str.inj y)) ?_⟩⟩
        refine ⟨_, rfl, sz (by show 2 ≤ 100000; decide), fun q nq => ?_⟩
        have sq := Same.new (o := .tup [.str "max", .str "min"]) nq
        refine ⟨q, _, rfl, .inr (SqT.of upd_same), rfl, rfl, _, rfl, ?_⟩
        have ein : inV (.str kk) [.str "max", .str "min"] = (decide (kk = "max") || decide (kk = "min")) := in2 kk
        rw [ein]
        cases hk : (decide (kk = "max") || decide (kk = "min")) with
        | false =>
          rw [hk, Bool.false_and] at w'
          exact ifF rfl (w' _ sq)
        | true =>
          rw [hk, Bool.true_and] at w'
          refine ifT rfl ⟨.int ((xs.length : Nat) : Int), slot xs.length, 1, _, rfl, rfl, _, rfl, ?_⟩
          by_cases h1 : 1 ≤ xs.length
          · refine ifT (decide_eq_true (by omega)) ⟨_, 6, rfl, rfl, ?_⟩
            rw [decide_eq_true h1, Bool.true_and] at w'
            have := w' _ sq
            rw [show decide (xs.length ≤ 6) = decide (((xs.length : Nat) : Int) ≤ 6) from decide_eq_decide.mpr (by omega)] at this
            exact this
          · rw [decide_eq_false h1, Bool.false_and] at w'
            exact ifF (decide_eq_false (by omega)) (w' _ sq)
end
section
variable {P : Program} {w : World} {K : PySem.W.Frag} {mg : Str → Option Value} {base : Heap} {a : Ad}
def sp_p_subterms (K : PySem.W.Frag) : Sp := spSubsR K

theorem ok_p_subterms (T : Txt K mg a) : FnOk P w K mg base CX0 1 a.f_p_subterms a.fd_p_subterms ["term"] (sp_p_subterms K) := by
  refine T.F_p_subterms.ok sc_p_subterms (fun vs H Q E h => ?_) (fun cdv A outer s H vs Q E hr h => ?_)
  · obtain ⟨v, t, n, rfl, _⟩ := h
    rfl
  · obtain ⟨v, t, n, rfl, ht, w⟩ := h
    refine ⟨_, (pss_cons (ps_set (i := 1) sc_p_subterms.nd rfl (by first | exact Or.inl rfl | exact Or.inr rfl) (pe_ix ix_tup (pv 0) pe_int (fun _ _ => rfl)))
          (pss_cons (ps_if (pt_cmpR op_eq (pv 1) pe_str (nomark _)) (pss_one (ps_ret (pe_lst pa_nil))) pss_nil)
          (pss_cons (ps_if (pt_cmpR op_eq (pv 1) pe_str (nomark _)) (pss_one (ps_ret (pe_lst (pa_cons (pe_ix ix_tup (pv 0) pe_int (fun _ _ => rfl)) pa_nil)))) pss_nil)
          (pss_cons (ps_if (pt_cmpR op_eq (pv 1) pe_str (nomark _)) (pss_one (ps_ret (pe_lc (own := [("pair", 2)]) (g := gName 2) rfl sc_p_subterms.nd (pi_tup (pe_slice sl_tup (pv 0) (po_some pe_int) po_none)) (blkOk_by (own := [("pair", 2)]) (N := ["term", "kind", "pair"]) (sc := defScope s_p_subterms) (by decide +kernel)) (fun _ _ _ _ _ => (pg_name (i := 2) sc_p_subterms.nd rfl (Or.inl rfl))) (fun _ _ _ _ _ => pts_nil) (fun _ _ _ _ _ => (pe_ix (ixT (K := K) rfl) (pv 2) pe_int (fun _ _ => rfl)))))) pss_nil)
          (pss_one (ps_ret (pe_callTy call_list_of (by rfl) T.n_list (by decide +kernel) (pa_cons (pe_slice sl_tup (pv 0) (po_some pe_int) po_none) pa_nil)))))))), ?_⟩
    obtain ⟨k, ts⟩ := t
    obtain ⟨l60, xs, hN, hA⟩ := ht
    have hlen := hA.1
    match k, hN with
    | .ev ss, ⟨ex, _, _, p, e, hp⟩ =>
      subst e ex
      have e0 : ts = [] := List.length_eq_zero_iff.mp hlen.symm
      subst e0
      refine ⟨.ref p, rfl, p, _, 0, _, rfl, rfl, hp, atI_nat (j := 0) rfl, ?_⟩
      refine ⟨_, rfl, rfl, _, rfl, ifT (decide_eq_true rfl) ?_⟩
      exact ⟨sz (by show 0 ≤ 100000; decide), fun l nl => w l _ [] (Same.new nl) nl upd_same All3.nil⟩
    | .dl none, ⟨p, x, ex, e, hp⟩ =>
      subst e ex
      refine ⟨.ref p, rfl, p, _, 0, _, rfl, rfl, hp, atI_nat (j := 0) rfl, ?_⟩
      refine ⟨_, rfl, rfl, _, rfl, ifF (str_no (by decide +kernel)) ⟨_, rfl, rfl, _, rfl, ifT (decide_eq_true rfl) ?_⟩⟩
      exact ⟨.ref p, rfl, p, _, 1, _, rfl, rfl, hp, rfl, sz (by show 1 ≤ 100000; decide), fun l nl => w l _ [x] (Same.new nl) nl upd_same (hA.mono fun _ _ z => z.same (Same.new nl))⟩
    | .dl (some f), ⟨p, x, fv, ex, e, hp, _⟩ =>
      subst e ex
      refine ⟨.ref p, rfl, p, _, 0, _, rfl, rfl, hp, atI_nat (j := 0) rfl, ?_⟩
      refine ⟨_, rfl, rfl, _, rfl, ifF (str_no (by decide +kernel)) ⟨_, rfl, rfl, _, rfl, ifT (decide_eq_true rfl) ?_⟩⟩
      exact ⟨.ref p, rfl, p, _, 1, _, rfl, rfl, hp, rfl, sz (by show 1 ≤ 100000; decide), fun l nl => w l _ [x] (Same.new nl) nl upd_same (hA.mono fun _ _ z => z.same (Same.new nl))⟩
    | .mx ws, ⟨p, ys, e, hp, l1, l2, hm⟩ =>
      subst e
      refine ⟨.ref p, rfl, p, _, 0, _, rfl, rfl, hp, atI_nat (j := 0) rfl, ?_⟩
      refine ⟨_, rfl, rfl, _, rfl, ifF (str_no (by decide +kernel)) ⟨_, rfl, rfl, _, rfl, ifF (str_no (by decide +kernel)) ⟨_, rfl, rfl, _, rfl, ifT (decide_eq_true rfl) ?_⟩⟩⟩
      refine ⟨.ref p, rfl, 1, rfl, p, _, rfl, hp, not_whole _ _, fun c nc => ?_⟩
      rw [cut_one]
      have sc := Same.new (o := .tup ys) nc
      refine ⟨c, rfl, ⟨_, SqT.of upd_same⟩, fun D nD => ?_⟩
      have nD0 : H D = none := sc.free nD
      have cD : c ≠ D := ne_of_none upd_same nD
      refine lc_tup (K := K) (a := c) (xs := ys) (fun i H1 => Same H H1 ∧ H1 c = some (.tup ys) ∧ H1 D = some (.lst (xs.take i))) ⟨sc.trans (Same.new nD), by rw [upd_ne cD]; exact upd_same, upd_same⟩ (fun i H1 _ h1 => SqT.of h1.2.1) ?_ ?_
      · rintro i y H1 hy ⟨s1, hc, hD⟩
        have il : i < ys.length := (List.getElem?_eq_some_iff.mp hy).1
        have hx : xs[i]? = some (xs[i]'(by omega)) := List.getElem?_eq_getElem _
        have hf : ws[i]? = some (ws[i]'(by omega)) := List.getElem?_eq_getElem _
        obtain ⟨q, wv, rfl, hq, _⟩ := hm i y _ _ hy hx hf
        have hq1 := Same.T s1 hq
        refine ⟨rfl, tYes_if ?_⟩
        refine ⟨.ref q, rfl, q, _, 1, _, rfl, rfl, hq1, rfl, ?_⟩
        refine ⟨_, hD, ?_, fun b o e => ?_, ?_, ?_⟩
        · rw [List.length_take]; exact szl (by omega)
        · rw [upd_ne (ne_of_none e nD0)]; exact s1 _ _ e
        · rw [upd_ne cD]; exact hc
        · rw [upd_same, List.take_add_one, hx]; rfl
      · rintro H1 ⟨s1, hc, hD⟩
        rw [show ys.length = xs.length from l1, List.take_length] at hD
        exact w D H1 xs s1 nD0 hD (hA.mono fun _ _ z => z.same s1)
    | .nn kk, ⟨n1, n2, n3, p, e, hp⟩ =>
      subst e
      refine ⟨.ref p, rfl, p, _, 0, _, rfl, rfl, hp, atI_nat (j := 0) rfl, ?_⟩
      refine ⟨_, rfl, rfl, _, rfl, ifF (decide_eq_false fun y => n1 (V.str.inj y)) ⟨_, rfl, rfl, _, rfl, ifF (decide_eq_false fun y => n2 (V.str.inj y)) ⟨_, rfl, rfl, _, rfl, ifF (decide_eq_false fun y => n3 (V.str.inj y)) ?_⟩⟩⟩
      refine ⟨.ref p, rfl, 1, rfl, p, _, rfl, hp, not_whole _ _, fun c nc => ?_⟩
      rw [cut_one]
      have sc := Same.new (o := .tup xs) nc
      refine ⟨c, xs, rfl, .inr (SqT.of upd_same), fun l nl => ?_⟩
      have s2 := sc.trans (Same.new (o := .lst xs) nl)
      exact w l _ xs s2 (sc.free nl) upd_same (hA.mono fun _ _ z => z.same s2)
end
section
variable {P : Program} {w : World} {K : PySem.W.Frag} {mg : Str → Option Value} {base : Heap} {a : Ad}
def sp_p_is_valid_term (K : PySem.W.Frag) : Sp := fun vs H Q _ => ∃ (v : V) (t : Rw) (N : Nat), vs = [v] ∧ RwAt K H N v t ∧ 11 ≤ N ∧ ∀ H', Same H H' → Q (.bl (isT 10 t && decide (t.size ≤ 40))) H'

theorem ok_p_is_valid_term (T : Txt K mg a) : FnOk P w K mg base CX0 7 a.f_p_is_valid_term a.fd_p_is_valid_term ["thing"] (sp_p_is_valid_term K) := by
  have G_p_subterms := ok_p_subterms (P := P) (w := w) (base := base) T
  have G_p_has_term_form := ok_p_has_term_form (P := P) (w := w) (base := base) T
  refine T.F_p_is_valid_term.ok sc_p_is_valid_term (fun vs H Q E h => ?_) (fun cdv A outer s H vs Q E hr h => ?_)
  · obtain ⟨v, t, N, rfl, _⟩ := h
    rfl
  · obtain ⟨v, t, N, rfl, ht, hN, w⟩ := h
    refine ⟨_, (pss_cons (ps_set (i := 1) sc_p_is_valid_term.nd rfl (by first | exact Or.inl rfl | exact Or.inr rfl) (pe_lst (pa_cons (pv 0) pa_nil)))
          (pss_cons (ps_set (i := 2) sc_p_is_valid_term.nd rfl (by first | exact Or.inl rfl | exact Or.inr rfl) pe_int)
          (pss_cons (ps_set (i := 3) sc_p_is_valid_term.nd rfl (by first | exact Or.inl rfl | exact Or.inr rfl) pe_int)
          (pss_cons (ps_while PassesOwn.never (pt_cmpR op_gt (pe_callB call_len (by rfl) T.n_len (by decide +kernel) (pa_cons (pv 1) pa_nil)) pe_int (nomark _)) (pss_cons (ps_aug (i := 2) sc_p_is_valid_term.nd rfl (by first | exact Or.inl rfl | exact Or.inr rfl) (pe_callB call_len (by rfl) T.n_len (by decide +kernel) (pa_cons (pv 1) pa_nil)) ip_add)
          (pss_cons (ps_aug (i := 3) sc_p_is_valid_term.nd rfl (by first | exact Or.inl rfl | exact Or.inr rfl) pe_int ip_add)
          (pss_cons (ps_if (PW.pt (pw_or (pt_cmpR op_gt (pv 2) (pe_glob (v := .int 40) (by rfl) T.c_MAX_SIZE ⟨_, rfl⟩) (nomark _)) (pw_or1 (pt_cmpR op_gt (pv 3) (pe_glob (v := .int 10) (by rfl) T.c_MAX_DEPTH ⟨_, rfl⟩) (nomark _))))) (pss_one (ps_ret pe_bl)) pss_nil)
          (pss_cons (ps_if (pt_not (pt_val (pe_callB (cr_all rfl) (by rfl) T.n_all (by decide +kernel) (pa_cons (pe_lc (own := [("part", 4)]) (g := gName 4) rfl sc_p_is_valid_term.nd (pi_list (pv 1)) (blkOk_by (own := [("part", 4)]) (N := ["thing", "level", "size", "depth", "part", "whole"]) (sc := defScope s_p_is_valid_term) (by decide +kernel)) (fun _ _ _ _ _ => (pg_name (i := 4) sc_p_is_valid_term.nd rfl (Or.inl rfl))) (fun _ _ _ _ _ => pts_nil) (fun _ _ _ _ _ => (pe_call G_p_has_term_form (hr.mono (by first | decide | omega)) (by rfl) T.g_p_has_term_form T.F_p_has_term_form.kp T.b_p_has_term_form .nil pass0 (pa_cons (pv 4) pa_nil)))) pa_nil)))) (pss_one (ps_ret pe_bl)) pss_nil)
          (pss_one (ps_setLc2 (i := 1) (own := [("whole", 5), ("part", 4)]) (vs1 := [4]) rfl sc_p_is_valid_term.nd rfl rfl (sw_true rfl rfl rfl (by decide +kernel)) (pi_list (pv 1)) (blkOk_by (own := [("whole", 5), ("part", 4)]) (N := ["thing", "level", "size", "depth", "part", "whole"]) (sc := defScope s_p_is_valid_term) (by decide +kernel)) (by decide) (fun _ _ _ _ _ => (pg_name (i := 5) sc_p_is_valid_term.nd rfl (Or.inl rfl))) (fun _ _ _ _ _ => pts_nil) (fun _ _ _ _ _ => (piLK (K := K) rfl (pe_call G_p_subterms (hr.mono (by first | decide | omega)) (by rfl) T.g_p_subterms T.F_p_subterms.kp T.b_p_subterms .nil pass0 (pa_cons (pv 5) pa_nil)))) (fun _ _ _ _ _ => (pg_name (i := 4) sc_p_is_valid_term.nd rfl (Or.inl rfl))) (fun _ _ _ _ _ => pts_nil) (fun _ _ _ _ _ => (pv 4)))))))))
          (pss_one (ps_ret pe_bl)))))), ?_⟩
    refine ⟨v, rfl, sz (by show 1 ≤ 100000; decide), fun l0 nl0 => ?_⟩
    have s0 := Same.new (o := .lst [v]) nl0
    have goal0 : bfs 10 [t] 0 = (isT 10 t && decide (t.size ≤ 40)) := by
      rw [bfs_eq 10 [t] 0 (by decide), Rw.sizes, Rw.sizes, List.all_cons, List.all_nil, Bool.and_true, show 0 + (t.size + 0) = t.size by omega]
    rw [← goal0] at w
    refine ⟨fun m σ H' => ∃ (l : Addr) (xs : List V) (ts : List Rw) (sz d : Nat), σ = [some v, some (.ref l), some (.int (sz : Nat)), some (.int (d : Nat)), none, none] ∧ Same H H' ∧ H' l = some (.lst xs) ∧ All3 (RwAt K H' (N - d)) xs ts ∧ xs.length ≤ 90000 ∧ sz ≤ 40 ∧ d ≤ 10 ∧ m = 10 - d ∧ bfs 10 [t] 0 = bfs (10 - d) ts sz, ⟨_, l0, [v], [t], 0, 0, rfl, s0, upd_same, All3.one (ht.same s0), by show 1 ≤ 90000; decide, by decide, by decide, rfl, rfl⟩, ?_⟩
    rintro m σ H1 ⟨l, xs, ts, z, d, rfl, s1, hl, hA, x3, z4, d1, rfl, hb⟩
    have hlen := hA.1
    refine ⟨.ref l, rfl, .ref l, xs.length, rfl, .inl ⟨_, SqL.of hl, rfl⟩, _, 0, rfl, rfl, _, rfl, ite2 (fun e => ?_) (fun e => ?_)⟩
    rotate_left
    · have x0 : xs = [] := List.length_eq_zero_iff.mp (by
        by_cases q : xs.length = 0
        · exact q
        · exact absurd (decide_eq_true (by omega)) e)
      have t0 : ts = [] := List.length_eq_zero_iff.mp (by rw [← hlen, x0]; rfl)
      have : bfs 10 [t] 0 = true := by
        rw [hb, t0]
        cases (10 - d) <;> rfl
      rw [this] at w
      exact w H1 s1
    have x1 : 1 ≤ xs.length := by have := of_decide_eq_true e; omega
    have tne : ts.isEmpty = false := by
      cases ts with
      | nil => rw [List.length_nil] at hlen; omega
      | cons => rfl
    refine ⟨fun σ' H' => ∃ (l : Addr) (xs' : List V) (ts' : List Rw) (z' : Nat), σ' = [some v, some (.ref l), some (.int (z' : Nat)), some (.int ((d + 1 : Nat) : Int)), none, none] ∧ Same H H' ∧ H' l = some (.lst xs') ∧ All3 (RwAt K H' (N - (d + 1))) xs' ts' ∧ xs'.length ≤ 90000 ∧ z' ≤ 40 ∧ d + 1 ≤ 10 ∧ bfs 10 [t] 0 = bfs (10 - (d + 1)) ts' z', ?_, ?_⟩
    · rintro σ' H' ⟨l', xs', ts', z', rfl, a1, a2, a3, a4, a5, a6, a7⟩
      exact ⟨10 - (d + 1), by omega, l', xs', ts', z', d + 1, rfl, a1, a2, a3, a4, a5, a6, rfl, a7⟩
    refine ⟨.int (z : Nat), rfl, .ref l, rfl, .ref l, xs.length, rfl, .inl ⟨_, SqL.of hl, rfl⟩, _, _, rfl, rfl, ?_⟩
    refine ⟨.int (d : Nat), rfl, _, 1, rfl, rfl, ?_⟩
    have no : bfs 10 [t] 0 = false → ∀ H', Same H H' → Q (.bl false) H' := fun h H' s => by
      have := w H' s
      rw [h] at this
      exact this
    have step : ∀ k, 10 - d = k + 1 → bfs 10 [t] 0 = (decide (z + xs.length ≤ 40) && (ts.all Rw.form && bfs k (ts.flatMap Rw.subs) (z + xs.length))) := fun k hk => by
      rw [hb, hk, bfs_succ, tne, Bool.false_or, hlen]
    refine ⟨_, rfl, _, 40, rfl, rfl, _, rfl, ite2 (fun e4 => ?_) (fun e4 => ?_)⟩
    · have g4 : ¬ z + xs.length ≤ 40 := by
        have q4 : (40 : Int) < (z : Int) + (xs.length : Int) := of_decide_eq_true e4
        omega
      refine iteT (no ?_ H1 s1)
      cases hk : 10 - d with
      | zero => rw [hb, hk]; exact tne
      | succ k => rw [step k hk, decide_eq_false g4, Bool.false_and]
    have g4 : z + xs.length ≤ 40 := by
      by_cases q : z + xs.length ≤ 40
      · exact q
      · exact absurd (decide_eq_true (show (40 : Int) < (z : Int) + (xs.length : Int) by omega)) e4
    refine ⟨_, rfl, _, 10, rfl, rfl, _, rfl, ite2 (fun e5 => ?_) (fun e5 => ?_)⟩
    · have g5 : 10 - d = 0 := by
        have q5 : (10 : Int) < (d : Int) + 1 := of_decide_eq_true e5
        omega
      refine no ?_ H1 s1
      rw [hb, g5]
      exact tne
    have g5 : d + 1 ≤ 10 := by
      by_cases q : d + 1 ≤ 10
      · exact q
      · exact absurd (decide_eq_true (show (10 : Int) < (d : Int) + 1 by omega)) e5
    have st := step (10 - (d + 1)) (by omega)
    rw [decide_eq_true g4, Bool.true_and] at st
    have e40 : N - d = (N - (d + 1)) + 1 := by omega
    rw [e40] at hA
    -- the forms
    refine ⟨.ref l, rfl, l, rfl, ⟨_, SqL.of hl⟩, fun D nD => ?_⟩
    have lD : l ≠ D := ne_of_none hl nD
    refine lc_list (K := K) (a := l) (xs := xs) (fun i H2 => Same H1 H2 ∧ H2 D = some (.lst (((ts.take i).map Rw.form).map V.bl))) ⟨Same.new nD, upd_same⟩ (fun i H2 _ h2 => SqL.of (h2.1 _ _ hl)) ?_ ?_
    · rintro i x H2 hx ⟨s2, hD⟩
      obtain ⟨u, hu, tu⟩ := hA.at hx
      have il : i < xs.length := (List.getElem?_eq_some_iff.mp hx).1
      refine ⟨rfl, tYes_if ⟨x, rfl, x, u, _, rfl, tu.same s2, fun H3 s3 => ?_⟩⟩
      refine ⟨_, s3 _ _ hD, by rw [List.length_map, List.length_map, List.length_take]; exact szl (by omega), fun b o e => ?_, ?_⟩
      · rw [upd_ne (ne_of_none e nD)]; exact s3 _ _ (s2 _ _ e)
      · rw [upd_same, tk_more hu, List.map_append]; rfl
    rintro H2 ⟨s2, hD⟩
    rw [hlen, List.take_length] at hD
    refine ⟨D, _, rfl, SqL.of hD, ?_⟩
    have ea : (ts.map Rw.form).all id = ts.all Rw.form := by rw [List.all_map]; rfl
    rw [ea]
    cases hf : ts.all Rw.form with
    | false =>
      rw [hf, Bool.false_and] at st
      exact ⟨false, rfl, iteT (no st H2 (s1.trans s2))⟩
    | true =>
      rw [hf, Bool.true_and] at st
      refine ⟨true, rfl, iteF ?_⟩
      have hl2 := s2 _ _ hl
      have hA2 := hA.mono fun _ _ q => q.same s2
      refine ⟨.ref l, rfl, l, rfl, ⟨_, SqL.of hl2⟩, fun L nL => ?_⟩
      have lL : l ≠ L := ne_of_none hl2 nL
      refine ⟨fun i m H3 => i + m = xs.length ∧ Same H2 H3 ∧ ∃ ys, H3 L = some (.lst ys) ∧ All3 (RwAt K H3 (N - (d + 1))) ys ((ts.take i).flatMap Rw.subs) ∧ ys.length ≤ 2000 * i, ⟨xs.length, by omega, Same.new nL, [], upd_same, All3.nil, Nat.le_refl _⟩, fun i m H3 hW => ?_⟩
      obtain ⟨em, s3, ys, hL, hY, yl⟩ := hW
      by_cases hi : i < xs.length
      · refine .inr ⟨⟨xs, xs[i], SqL.of (s3 _ _ hl2), List.getElem?_eq_getElem hi⟩, fun H4 => Same H2 H4 ∧ ∃ ys, H4 L = some (.lst ys) ∧ All3 (RwAt K H4 (N - (d + 1))) ys ((ts.take (i + 1)).flatMap Rw.subs) ∧ ys.length ≤ 2000 * (i + 1), fun H4 hN => ⟨m - 1, by omega, by omega, hN⟩, fun x H4 hy => ?_⟩
        obtain ⟨rfl, hx⟩ := hy
        have hx' := hx xs (SqL.of (s3 _ _ hl2))
        obtain ⟨u, hu, tu⟩ := hA2.at hx'
        have tu3 := tu.same s3
        refine ⟨rfl, tYes_if ⟨x, rfl, x, u, N - (d + 1), rfl, tu3, fun l3 H5 zs s5 nl3 hl3 hZ => ⟨l3, rfl, ⟨_, SqL.of hl3⟩, ?_⟩⟩⟩
        have l3L : l3 ≠ L := fun q => by rw [q, hL] at nl3; cases nl3
        have u2000 : zs.length ≤ 2000 := by rw [hZ.1]; exact tu3.ar.1
        refine ⟨fun j k H6 => j + k = zs.length ∧ Same H2 H6 ∧ H6 l3 = some (.lst zs) ∧ ∃ ys', H6 L = some (.lst ys') ∧ All3 (RwAt K H6 (N - (d + 1))) zs u.subs ∧ All3 (RwAt K H6 (N - (d + 1))) ys' ((ts.take i).flatMap Rw.subs ++ u.subs.take j) ∧ ys'.length = ys.length + j, ⟨zs.length, by omega, s3.trans s5, hl3, ys, s5 _ _ hL, hZ, by rw [List.take_zero, List.append_nil]; exact hY.mono fun _ _ q => q.same s5, by omega⟩, fun j k H6 hW6 => ?_⟩
        obtain ⟨ek, s6, hl6, ys', hL6, hZ6, hY6, yl6⟩ := hW6
        by_cases hj : j < zs.length
        · refine .inr ⟨⟨zs, zs[j], SqL.of hl6, List.getElem?_eq_getElem hj⟩, fun H7 => Same H2 H7 ∧ H7 l3 = some (.lst zs) ∧ ∃ ys', H7 L = some (.lst ys') ∧ All3 (RwAt K H7 (N - (d + 1))) zs u.subs ∧ All3 (RwAt K H7 (N - (d + 1))) ys' ((ts.take i).flatMap Rw.subs ++ u.subs.take (j + 1)) ∧ ys'.length = ys.length + (j + 1), fun H7 hN => ⟨k - 1, by omega, by omega, hN⟩, fun y H7 hy7 => ?_⟩
          obtain ⟨rfl, hyy⟩ := hy7
          have hy' := hyy zs (SqL.of hl6)
          obtain ⟨q, hq, tq⟩ := hZ6.at hy'
          refine ⟨rfl, tYes_if ⟨y, rfl, ys', hL6, szl (by omega), fun b o e => ?_, ?_, ys' ++ [y], upd_same, hZ6.mono fun _ _ p => p.put hL6, ?_, by rw [List.length_append, yl6]; rfl⟩⟩
          · rw [upd_ne (ne_of_none e nL)]; exact s6 _ _ e
          · rw [upd_ne l3L]; exact hl6
          · rw [List.take_add_one, hq, ← List.append_assoc]
            exact (hY6.mono fun _ _ p => p.put hL6).app (All3.one (tq.put hL6))
        · have ej : j = zs.length := by omega
          subst ej
          refine .inl ⟨⟨zs, SqL.of hl6, Nat.le_refl _⟩, s6, ys', hL6, ?_, by omega⟩
          rw [hZ6.1, List.take_length] at hY6
          have e : (ts.take (i + 1)).flatMap Rw.subs = (ts.take i).flatMap Rw.subs ++ u.subs := by
            rw [List.take_add_one, hu, List.flatMap_append]
            show _ ++ List.flatMap Rw.subs [u] = _
            rw [List.flatMap_cons, List.flatMap_nil, List.append_nil]
          rw [e]
          exact hY6
      · have ei : i = xs.length := by omega
        subst ei
        refine .inl ⟨⟨xs, SqL.of (s3 _ _ hl2), Nat.le_refl _⟩, ?_⟩
        rw [hlen, List.take_length] at hY
        exact ⟨L, ys, _, z + xs.length, by rw [show ((z + xs.length : Nat) : Int) = (z : Int) + (xs.length : Int) by omega, show ((d + 1 : Nat) : Int) = (d : Int) + 1 by omega]; rfl, s1.trans (s2.trans s3), hL, hY, by omega, g4, g5, st⟩
end
section
variable {P : Program} {w : World} {K : PySem.W.Frag} {mg : Str → Option Value} {base : Heap} {a : Ad}
def sp_p_format_delay (K : PySem.W.Frag) : Sp := spDly K

theorem ok_p_format_delay (T : Txt K mg a) : FnOk P w K mg base CX0 2 a.f_p_format_delay a.fd_p_format_delay ["amount"] (sp_p_format_delay K) := by
  have G_p_format_fraction := ok_p_format_fraction (P := P) (w := w) (base := base) T
  refine T.F_p_format_delay.ok sc_p_format_delay (fun vs H Q E h => ?_) (fun cdv A outer s H vs Q E hr h => ?_)
  · obtain ⟨v, f, rfl, _⟩ := h
    rfl
  · obtain ⟨v, f, rfl, ⟨p, rfl, hp⟩, F, w⟩ := h
    refine ⟨_, (pss_cons (ps_if (pt_cmpR op_lt (pe_ix ix_tup (pv 0) pe_int (fun _ _ => rfl)) pe_int (nomark _)) (pss_one (ps_ret (pe_op op_add_str pe_str (pe_call G_p_format_fraction (hr.mono (by first | decide | omega)) (by rfl) T.g_p_format_fraction T.F_p_format_fraction.kp T.b_p_format_fraction .nil pass0 (pa_cons (pe_tup (pa_cons (pe_un un_neg (pe_ix ix_tup (pv 0) pe_int (fun _ _ => rfl))) (pa_cons (pe_ix ix_tup (pv 0) pe_int (fun _ _ => rfl)) pa_nil))) pa_nil))))) pss_nil)
          (pss_one (ps_ret (pe_op op_add_str pe_str (pe_call G_p_format_fraction (hr.mono (by first | decide | omega)) (by rfl) T.g_p_format_fraction T.F_p_format_fraction.kp T.b_p_format_fraction .nil pass0 (pa_cons (pv 0) pa_nil)))))), ?_⟩
    have l3 : ∀ l : List Nat, l.length ≤ 63 → (SX.S [32, 45, 32]).length + (SX.S l).length ≤ sizeLine := fun l h => sz (by rw [S_len', S_len']; show 3 + _ ≤ _; omega)
    refine ⟨.ref p, rfl, p, _, 0, _, rfl, rfl, hp, rfl, f.1, 0, rfl, rfl, _, rfl, ite2 (fun e => ?_) (fun e => ?_)⟩
    · have e' : f.1 < 0 := of_decide_eq_true e
      refine ⟨.ref p, rfl, p, _, 0, _, rfl, rfl, hp, rfl, f.1, rfl, .ref p, rfl, p, _, 1, _, rfl, rfl, hp, rfl, sz (by show 2 ≤ 100000; decide), fun q nq => ?_⟩
      have sq := Same.new (o := .tup [.int (-f.1), .int f.2]) nq
      have z := w _ sq
      rw [show dlyL f = [32, 45, 32] ++ fmtL (-f.1, f.2) from if_pos e', ← SX.S_cat] at z
      exact ⟨.ref q, -f.1, f.2, rfl, ⟨q, rfl, SqT.of upd_same⟩, F.neg.b1, F.neg.b2, _, _, rfl, rfl, l3 _ (fin_len F.neg), z⟩
    · have e' : ¬ f.1 < 0 := fun z => e (decide_eq_true z)
      have z := w H (Same.refl H)
      rw [show dlyL f = [32, 43, 32] ++ fmtL f from if_neg e', ← SX.S_cat] at z
      exact ⟨.ref p, rfl, .ref p, f.1, f.2, rfl, ⟨p, rfl, hp⟩, F.b1, F.b2, _, _, rfl, rfl, l3 _ (fin_len F), z⟩
end
section
variable {P : Program} {w : World} {K : PySem.W.Frag} {mg : Str → Option Value} {base : Heap} {a : Ad}
def sp_p_format_term (K : PySem.W.Frag) : Sp := spFmt K 10

theorem ok_p_format_term_n (T : Txt K mg a) : ∀ n, FnOk P w K mg base CX0 (n + 3) a.f_p_format_term a.fd_p_format_term ["term"] (spFmt K n)
  | 0 => fn_false
  | n + 1 => by
    have G_p_format_delay := ok_p_format_delay (P := P) (w := w) (base := base) T
    have G_p_format_fraction := ok_p_format_fraction (P := P) (w := w) (base := base) T
    have G_p_format_term := ok_p_format_term_n T n
    refine T.F_p_format_term.ok sc_p_format_term (fun vs H Q E h => ?_) (fun cdv A outer s H vs Q E hr h => ?_)
    · obtain ⟨v, t, rfl, _⟩ := h
      rfl
    obtain ⟨v, t, rfl, ht, hT, hz, w⟩ := h
    have bd := txt_bdF hT ht.arw
    refine ⟨_, (pss_cons (ps_set (i := 1) sc_p_format_term.nd rfl (by first | exact Or.inl rfl | exact Or.inr rfl) (pe_ix ix_tup (pv 0) pe_int (fun _ _ => rfl)))
      (pss_cons (ps_if (pt_cmpR op_eq (pv 1) pe_str (nomark _)) (pss_one (ps_ret (pe_ix ix_tup (pv 0) pe_int (fun _ _ => rfl)))) pss_nil)
      (pss_cons (ps_if (pt_cmpR op_eq (pv 1) pe_str (nomark _)) (pss_one (ps_ret (pe_op op_add_str (pe_call G_p_format_term (hr.mono (by first | decide | omega)) (by rfl) T.g_p_format_term T.F_p_format_term.kp T.b_p_format_term .nil pass0 (pa_cons (pe_ix ix_tup (pv 0) pe_int (fun _ _ => rfl)) pa_nil)) (pe_call G_p_format_delay (hr.mono (by first | decide | omega)) (by rfl) T.g_p_format_delay T.F_p_format_delay.kp T.b_p_format_delay .nil pass0 (pa_cons (pe_ix ix_tup (pv 0) pe_int (fun _ _ => rfl)) pa_nil))))) pss_nil)
      (pss_cons (ps_if (pt_cmpR op_eq (pv 1) pe_str (nomark _)) (pss_one (ps_setLc (i := 2) (own := [("weight", 3), ("part", 4)]) (g := gTup K 2 (gCons (gName 3) (gCons (gName 4) gNil))) rfl sc_p_format_term.nd rfl rfl (sw_true rfl rfl rfl (by decide +kernel)) (pi_tup (pe_slice sl_tup (pv 0) (po_some pe_int) po_none)) (blkOk_by (own := [("weight", 3), ("part", 4)]) (N := ["term", "kind", "parts", "weight", "part"]) (sc := defScope s_p_format_term) (by decide +kernel)) (fun _ _ _ _ _ => (pg_tup rfl (pgs_cons (pg_name (i := 3) sc_p_format_term.nd rfl (Or.inl rfl)) (pgs_cons (pg_name (i := 4) sc_p_format_term.nd rfl (Or.inl rfl)) pgs_nil)))) (fun _ _ _ _ _ => pts_nil) (fun _ _ _ _ _ => (pe_op op_add_str (pe_op op_add_str (pe_call G_p_format_fraction (hr.mono (by first | decide | omega)) (by rfl) T.g_p_format_fraction T.F_p_format_fraction.kp T.b_p_format_fraction .nil pass0 (pa_cons (pv 3) pa_nil)) pe_str) (pe_call G_p_format_term (hr.mono (by first | decide | omega)) (by rfl) T.g_p_format_term T.F_p_format_term.kp T.b_p_format_term .nil pass0 (pa_cons (pv 4) pa_nil)))))) (pss_one (ps_setLc (i := 2) (own := [("part", 4)]) (g := gName 4) rfl sc_p_format_term.nd rfl rfl (sw_true rfl rfl rfl (by decide +kernel)) (pi_tup (pe_slice sl_tup (pv 0) (po_some pe_int) po_none)) (blkOk_by (own := [("part", 4)]) (N := ["term", "kind", "parts", "weight", "part"]) (sc := defScope s_p_format_term) (by decide +kernel)) (fun _ _ _ _ _ => (pg_name (i := 4) sc_p_format_term.nd rfl (Or.inl rfl))) (fun _ _ _ _ _ => pts_nil) (fun _ _ _ _ _ => (pe_call G_p_format_term (hr.mono (by first | decide | omega)) (by rfl) T.g_p_format_term T.F_p_format_term.kp T.b_p_format_term .nil pass0 (pa_cons (pv 4) pa_nil))))))
      (pss_one (ps_ret (pe_op op_add_str (pe_op op_add_str (pe_op op_add_str (pv 1) pe_str) (pe_join pe_str (pv 2))) pe_str))))))), ?_⟩
    obtain ⟨k, ts⟩ := t
    have haT : ∀ u ∈ ts, Arw n u := ht.arw.2
    obtain ⟨l60, xs, hN, hA⟩ := ht
    have hlen := hA.1
    obtain ⟨hf, hs⟩ := hT
    rw [Rw.txt_eq] at w bd
    have subs : ∀ {i : Nat} {u : Rw}, ts[i]? = some u → Fm n u ∧ u.size ≤ 400 := fun hu => ⟨hs _ (List.mem_of_getElem? hu), by
      have := sizes_at hu
      rw [Rw.size] at hz
      omega⟩
    -- one operand
    have one : ∀ {x : V} {u : Rw} {i : Nat} {H1 : Hp} {Q1 : VK} {E1 : XK}, ts[i]? = some u → RwAt K H1 n x u → (∀ H', Same H1 H' → Q1 (.str (SX.S u.txt)) H') → spFmt K n [x] H1 Q1 E1 := by
      intro x u i H1 Q1 E1 hu hx hw
      obtain ⟨h1, h2⟩ := subs hu
      cases n with
      | zero => exact hx.elim
      | succ n => exact ⟨x, u, rfl, hx, h1, h2, hw⟩
    match k, hN, hf, w, bd with
    | .ev ss, ⟨ex, _, _, p, e, hp⟩, hf, w, bd =>
      subst e ex
      obtain ⟨s, es, _⟩ := hf
      subst es
      refine ⟨.ref p, rfl, p, _, 0, _, rfl, rfl, hp, atI_nat (j := 0) rfl, _, rfl, rfl, _, rfl, ifT (decide_eq_true rfl) ?_⟩
      refine ⟨.ref p, rfl, p, _, 1, _, rfl, rfl, hp, rfl, ?_⟩
      have z := w H (Same.refl H)
      have e : SX.S (txtK (.ev [s]) (ts.map Rw.txt)) = s := by
        show SX.S ([s].map TL.tl).flatten = s
        rw [show ([s].map TL.tl).flatten = TL.tl s by simp, SX.S_tl]
      rw [e] at z
      exact z
    | .dl none, _, hf, w, bd => exact hf.elim
    | .dl (some f), ⟨p, x, fv, ex, e, hp, fw⟩, hf, w, bd =>
      subst e ex
      obtain ⟨u, rfl⟩ : ∃ u, ts = [u] := List.length_eq_one_iff.mp hlen.symm
      have hx := hA.2 0 x u rfl rfl
      have hf' : Fin f := hf
      refine ⟨.ref p, rfl, p, _, 0, _, rfl, rfl, hp, atI_nat (j := 0) rfl, _, rfl, rfl, _, rfl, ifF (str_no (by decide +kernel)) ⟨_, rfl, rfl, _, rfl, ifT (decide_eq_true rfl) ?_⟩⟩
      refine ⟨.ref p, rfl, p, _, 1, _, rfl, rfl, hp, rfl, one (i := 0) rfl hx fun H1 s1 => ?_⟩
      refine ⟨.ref p, rfl, p, _, 2, _, rfl, rfl, Same.T s1 hp, rfl, fv, f, rfl, (fw.same s1).fr, hf', fun H2 s2 => ?_⟩
      have e : txtK (.dl (some f)) ([u].map Rw.txt) = u.txt ++ dlyL f := by
        show ([u].map Rw.txt).flatten ++ dlyL f = _
        rw [show ([u].map Rw.txt).flatten = u.txt by simp]
      rw [e] at w bd
      rw [List.length_append] at bd
      have z := w H2 (s1.trans s2)
      rw [← SX.S_cat] at z
      exact ⟨_, _, rfl, rfl, sz (by rw [S_len', S_len']; omega), z⟩
    | .mx ws, ⟨p, ys, e, hp, l1, l2, hm⟩, hf, w, bd =>
      subst e
      refine ⟨.ref p, rfl, p, _, 0, _, rfl, rfl, hp, atI_nat (j := 0) rfl, _, rfl, rfl, _, rfl, ifF (str_no (by decide +kernel)) ⟨_, rfl, rfl, _, rfl, ifF (str_no (by decide +kernel)) ⟨_, rfl, rfl, _, rfl, ifT (decide_eq_true rfl) ?_⟩⟩⟩
      have hw : ∀ w ∈ ws, Fin w := hf
      have opb := ops_ofW hw hs haT
      refine ⟨.ref p, rfl, 1, rfl, p, _, rfl, hp, not_whole _ _, fun c nc => ?_⟩
      rw [cut_one]
      have sc := Same.new (o := .tup ys) nc
      refine ⟨c, rfl, ⟨_, SqT.of upd_same⟩, fun D nD => ?_⟩
      refine lc_tup (K := K) (a := c) (xs := ys) (fun i H1 => Same (upd H c (.tup ys)) H1 ∧ H1 D = some (.lst ((((ws.zip ts).take i).map fun o => SX.S (opL true o)).map V.str))) ⟨Same.new nD, upd_same⟩ (fun i H1 _ h1 => SqT.of (h1.1 _ _ upd_same)) ?_ ?_
      · rintro i y H1 hy ⟨s1, hD⟩
        have il : i < ys.length := (List.getElem?_eq_some_iff.mp hy).1
        have hx : xs[i]? = some (xs[i]'(by omega)) := List.getElem?_eq_getElem _
        obtain ⟨f, hf⟩ : ∃ f, ws[i]? = some f := ⟨_, List.getElem?_eq_getElem (show i < ws.length by omega)⟩
        obtain ⟨u, hu, tu⟩ := hA.at hx
        obtain ⟨q, wv, rfl, hq, fw⟩ := hm i y _ _ hy hx hf
        have sA := sc.trans s1
        have F := hw _ (List.mem_of_getElem? hf)
        have fl : (fmtL (f.1, f.2)).length ≤ 63 := fin_len F
        have bu := txt_bdF (hs _ (List.mem_of_getElem? hu)) (haT _ (List.mem_of_getElem? hu))
        have us := (subs hu).2
        refine ⟨q, _, rfl, Same.T sA hq, rfl, _, _, rfl, _, _, rfl, rfl, rfl, tYes_if ?_⟩
        refine ⟨wv, rfl, wv, _, _, rfl, (fw.same sA).fr, F.b1, F.b2, _, _, rfl, rfl, sz (by rw [S_len', blank_S, S_len']; show _ + 1 ≤ _; omega), ?_⟩
        refine ⟨_, rfl, one hu (tu.same sA) fun H2 s2 => ⟨_, _, rfl, rfl, sz (by rw [Str.length_append, S_len', S_len', blank_S, S_len']; show _ + 1 + _ ≤ _; omega), _, s2 _ _ hD, ?_, fun b o e => ?_, ?_⟩⟩
        · rw [List.length_map, List.length_map, List.length_take, List.length_zip]; exact szl (by omega)
        · rw [upd_ne (ne_of_none e nD)]; exact s2 _ _ (s1 _ _ e)
        · have hz' : (ws.zip ts)[i]? = some (f, u) := by rw [List.getElem?_zip_eq_some]; exact ⟨hf, hu⟩
          rw [upd_same, List.take_add_one, hz', List.map_append, List.map_append]
          have e3 : SX.S (fmtL (f.1, f.2)) ++ (" " : Str) ++ SX.S u.txt = SX.S (opL true (f, u)) := by
            rw [blank_S, SX.S_cat, SX.S_cat, List.append_assoc]
            rfl
          rw [e3]
          rfl
      · rintro H1 ⟨s1, hD⟩
        have zl : (ws.zip ts).length = ys.length := by rw [List.length_zip]; omega
        rw [← zl, List.take_length] at hD
        have sl := sum_lens true _ opb
        have jl := joinL_len true _ opb
        have z2 : (ws.zip ts).map (·.2) = ts := List.map_snd_zip (by omega)
        rw [z2] at sl jl
        have sz4 : Rw.sizes ts ≤ 400 := by rw [Rw.size] at hz; omega
        have z := w H1 (sc.trans s1)
        have e2 : txtK (.mx ws) (ts.map Rw.txt) = TL.tl ("mix" : Str) ++ 40 :: (TL.joinL [44, 32] ((ws.zip ts).map (opL true)) ++ [41]) := by
          show [109, 105, 120] ++ 40 :: (TL.joinL [44, 32] (List.zipWith (fun w x => fmtL w ++ 32 :: x) ws (ts.map Rw.txt)) ++ [41]) = _
          rw [zip_opL, mix_S]
        rw [e2, ← end_ops] at z
        have lm : ("mix" : Str).length = 3 := by decide +kernel
        have lo : ("(" : Str).length = 1 := by decide +kernel
        have lc : (")" : Str).length = 1 := by decide +kernel
        have l2 : (", " : Str).length = 2 := by decide +kernel
        have lj : (Txt.join ", " ((ws.zip ts).map fun o => SX.S (opL true o))).length ≤ 80000 := by rw [join_ops, S_len']; omega
        refine ⟨_, rfl, _, _, rfl, rfl, sz (by omega), ⟨_, rfl⟩, .ref D, rfl, _, D, _, rfl, rfl, .inl (SqL.of hD), ?_, _, _, rfl, rfl, sz (by rw [Str.length_append]; omega), _, _, rfl, rfl, sz (by rw [Str.length_append, Str.length_append]; omega), z⟩
        rw [l2, List.length_map]
        omega
    | .nn kk, ⟨n1, n2, n3, p, e, hp⟩, hf, w, bd =>
      subst e
      refine ⟨.ref p, rfl, p, _, 0, _, rfl, rfl, hp, atI_nat (j := 0) rfl, _, rfl, rfl, _, rfl, ifF (decide_eq_false fun y => n1 (V.str.inj y)) ⟨_, rfl, rfl, _, rfl, ifF (decide_eq_false fun y => n2 (V.str.inj y)) ⟨_, rfl, rfl, _, rfl, ifF (decide_eq_false fun y => n3 (V.str.inj y)) ?_⟩⟩⟩
      refine ⟨.ref p, rfl, 1, rfl, p, _, rfl, hp, not_whole _ _, fun c nc => ?_⟩
      rw [cut_one]
      have opb := ops_of hs haT
      have kl : kk.length ≤ 6 := hf
      have sc := Same.new (o := .tup xs) nc
      refine ⟨c, rfl, ⟨_, SqT.of upd_same⟩, fun D nD => ?_⟩
      refine lc_tup (K := K) (a := c) (xs := xs) (fun i H1 => Same (upd H c (.tup xs)) H1 ∧ H1 D = some (.lst ((((ts.map fun t => (((0, 1) : QQ), t)).take i).map fun o => SX.S (opL false o)).map V.str))) ⟨Same.new nD, upd_same⟩ (fun i H1 _ h1 => SqT.of (h1.1 _ _ upd_same)) ?_ ?_
      · rintro i x H1 hx ⟨s1, hD⟩
        have il : i < xs.length := (List.getElem?_eq_some_iff.mp hx).1
        obtain ⟨u, hu, tu⟩ := hA.at hx
        refine ⟨rfl, tYes_if ⟨x, rfl, one hu (tu.same (sc.trans s1)) fun H2 s2 => ⟨_, s2 _ _ hD, ?_, fun b o e => ?_, ?_⟩⟩⟩
        · rw [List.length_map, List.length_map, List.length_take, List.length_map]; exact szl (by omega)
        · rw [upd_ne (ne_of_none e nD)]; exact s2 _ _ (s1 _ _ e)
        · rw [upd_same, List.take_add_one, List.getElem?_map, hu, List.map_append, List.map_append]
          rfl
      · rintro H1 ⟨s1, hD⟩
        rw [show xs.length = (ts.map fun t => (((0, 1) : QQ), t)).length by rw [List.length_map]; exact hlen, List.take_length] at hD
        have sl := sum_lens false _ opb
        have jl := joinL_len false _ opb
        rw [map_op2] at sl jl
        have sz4 : Rw.sizes ts ≤ 400 := by rw [Rw.size] at hz; omega
        have z := w H1 (sc.trans s1)
        have e2 : txtK (.nn kk) (ts.map Rw.txt) = TL.tl kk ++ 40 :: (TL.joinL [44, 32] ((ts.map fun t => (((0, 1) : QQ), t)).map (opL false)) ++ [41]) := by
          show TL.tl kk ++ 40 :: (TL.joinL [44, 32] (ts.map Rw.txt) ++ [41]) = _
          rw [map_op]
        rw [e2, ← end_ops] at z
        have lo : ("(" : Str).length = 1 := by decide +kernel
        have lc : (")" : Str).length = 1 := by decide +kernel
        have l2 : (", " : Str).length = 2 := by decide +kernel
        have lj : (Txt.join ", " ((ts.map fun t => (((0, 1) : QQ), t)).map fun o => SX.S (opL false o))).length ≤ 80000 := by rw [join_ops, S_len']; omega
        refine ⟨_, rfl, _, _, rfl, rfl, sz (by omega), ⟨_, rfl⟩, .ref D, rfl, _, D, _, rfl, rfl, .inl (SqL.of hD), ?_, _, _, rfl, rfl, sz (by rw [Str.length_append]; omega), _, _, rfl, rfl, sz (by rw [Str.length_append, Str.length_append]; omega), z⟩
        rw [l2, List.length_map]
        omega
theorem ok_p_format_term (T : Txt K mg a) : FnOk P w K mg base CX0 13 a.f_p_format_term a.fd_p_format_term ["term"] (sp_p_format_term K) := ok_p_format_term_n T 10
end
section
variable {P : Program} {w : World} {K : PySem.W.Frag} {mg : Str → Option Value} {base : Heap} {a : Ad}
def sp_p_end_of_run (K : PySem.W.Frag) : Sp := fun vs H Q _ => ∃ (z S : Str) (i : Nat), vs = [.str z, .int (i : Int), .str S] ∧ i ≤ z.length ∧ z.length ≤ 4000 ∧ Q (.int ((i + (((TL.tl z).drop i).takeWhile fun c => decide (c ∈ S.cps.toList)).length : Nat) : Int)) H

theorem ok_p_end_of_run (T : Txt K mg a) : FnOk P w K mg base CX0 1 a.f_p_end_of_run a.fd_p_end_of_run ["text", "start", "signs"] (sp_p_end_of_run K) := by
  refine T.F_p_end_of_run.ok sc_p_end_of_run (fun vs H Q E h => ?_) (fun cdv A outer s H vs Q E hr h => ?_)
  · obtain ⟨z, S, i, rfl, _⟩ := h
    rfl
  · obtain ⟨z, S, i, rfl, hi, hz, w⟩ := h
    refine ⟨_, (pss_cons (ps_set (i := 3) sc_p_end_of_run.nd rfl (by first | exact Or.inl rfl | exact Or.inr rfl) (pv 1))
          (pss_cons (ps_while PassesOwn.never (PW.pt (pw_and (pt_cmpR op_lt (pv 3) (pe_callB call_len (by rfl) T.n_len (by decide +kernel) (pa_cons (pv 0) pa_nil)) (nomark _)) (pw_and1 (pt_cmpR op_in_sign (pe_ix ix_str (pv 0) (pv 3) (fun _ _ => rfl)) (pv 2) (by rfl))))) (pss_one (ps_aug (i := 3) sc_p_end_of_run.nd rfl (by first | exact Or.inl rfl | exact Or.inr rfl) pe_int ip_add)))
          (pss_one (ps_ret (pv 3))))), ?_⟩
    have hl := cps_len z
    refine ⟨_, rfl, ?_⟩
    refine ⟨fun m σ H' => ∃ j : Nat, σ = [some (.str z), some (.int (i : Int)), some (.str S), some (.int ((j : Nat) : Int))] ∧ H' = H ∧ j ≤ z.length ∧ m = z.length - j ∧ i + (((TL.tl z).drop i).takeWhile fun c => decide (c ∈ S.cps.toList)).length = j + (((TL.tl z).drop j).takeWhile fun c => decide (c ∈ S.cps.toList)).length, ⟨_, i, rfl, rfl, hi, rfl, rfl⟩, ?_⟩
    rintro m σ H' ⟨j, rfl, hH, hj, rfl, hE⟩
    obtain rfl : H = H' := hH.symm
    refine ⟨_, rfl, .str z, rfl, .str z, z.length, rfl, ⟨sz (by omega), rfl⟩, (j : Int), (z.length : Int), rfl, rfl, _, rfl, ite2 (fun e => ?_) (fun e => ?_)⟩
    · have e' : j < z.length := by have := of_decide_eq_true e; omega
      have hc : (TL.tl z)[j]? = some ((TL.tl z)[j]'(by rw [← TL.len_tl]; exact e')) := List.getElem?_eq_getElem _
      have dr : (TL.tl z).drop j = ((TL.tl z)[j]'(by rw [← TL.len_tl]; exact e')) :: (TL.tl z).drop (j + 1) := List.drop_eq_getElem_cons _
      refine ⟨.str z, rfl, .int (j : Int), rfl, z, (j : Int), _, rfl, rfl, sz (by omega), atI_nat hc, .str S, rfl, _, S, rfl, rfl, _, rfl, ite2 (fun e2 => ?_) (fun e2 => ?_)⟩
      · refine ⟨fun σ' H' => σ' = [some (.str z), some (.int (i : Int)), some (.str S), some (.int ((j + 1 : Nat) : Int))] ∧ H' = H, ?_, ?_⟩
        · rintro σ' H' ⟨rfl, rfl⟩
          refine ⟨_, ?_, j + 1, rfl, rfl, by omega, rfl, ?_⟩
          · omega
          · rw [hE, dr, List.takeWhile_cons, if_pos e2, List.length_cons]
            omega
        · exact ⟨_, rfl, (j : Int), 1, rfl, rfl, rfl, rfl⟩
      · refine ⟨_, rfl, ?_⟩
        rw [hE, dr, List.takeWhile_cons, if_neg e2] at w
        exact w
    · have e' : ¬ j < z.length := fun y => e (decide_eq_true (by omega))
      refine ⟨_, rfl, ?_⟩
      rw [hE, List.drop_eq_nil_of_le (by rw [← TL.len_tl]; omega)] at w
      exact w
end
section
variable {P : Program} {w : World} {K : PySem.W.Frag} {mg : Str → Option Value} {base : Heap} {a : Ad}
def sp_p_skip (K : PySem.W.Frag) : Sp := fun vs H Q _ => ∃ (z W : Str) (i : Nat) (r : List Nat), vs = [.str z, .int (i : Int), .str W] ∧ i ≤ z.length ∧ z.length ≤ 4000 ∧ W.length ≤ 100 ∧ skipL (TL.tl W) ((TL.tl z).drop i) = some r ∧ Q (.int ((i + W.length : Nat) : Int)) H
def spx_p_skip (K : PySem.W.Frag) (a : Ad) : Sp := fun vs H Q E => ∃ (z W : Str) (i : Nat), vs = [.str z, .int (i : Int), .str W] ∧ i ≤ z.length ∧ z.length ≤ 4000 ∧ W.length ≤ 100 ∧ (∀ r, skipL (TL.tl W) ((TL.tl z).drop i) = some r → i + W.length ≤ z.length → (TL.tl z).drop (i + W.length) = r → Q (.int ((i + W.length : Nat) : Int)) H) ∧ (skipL (TL.tl W) ((TL.tl z).drop i) = none → RzP a E H)

theorem okx_p_skip (T : Txt K mg a) : FnOk P w K mg base CX0 1 a.f_p_skip a.fd_p_skip ["text", "start", "wanted"] (spx_p_skip K a) := by
  refine T.F_p_skip.ok sc_p_skip (fun vs H Q E h => ?_) (fun cdv A outer s H vs Q E hr h => ?_)
  · obtain ⟨z, W, i, rfl, _⟩ := h
    rfl
  · obtain ⟨z, W, i, rfl, hi, hz, hW, w, wx⟩ := h
    refine ⟨_, (pss_cons (ps_set (i := 3) sc_p_skip.nd rfl (by first | exact Or.inl rfl | exact Or.inr rfl) (pe_op op_add (pv 1) (pe_callB call_len (by rfl) T.n_len (by decide +kernel) (pa_cons (pv 2) pa_nil))))
          (pss_cons (ps_if (pt_cmpR op_ne (pe_slice sl_str (pv 0) (po_some (pv 1)) (po_some (pv 3))) (pv 2) (nomark _)) (pss_one ps_never) pss_nil)
          (pss_one (ps_ret (pv 3))))), ?_⟩
    have hl := cps_len z
    have lW := TL.len_tl W
    refine ⟨_, rfl, .str W, rfl, .str W, W.length, rfl, ⟨sz (by omega), rfl⟩, (i : Int), (W.length : Int), rfl, rfl, ?_⟩
    refine ⟨.str z, rfl, _, rfl, (i : Int), rfl, _, rfl, ((i : Int) + (W.length : Int)), rfl, z, rfl, sz (by omega), .str W, rfl, rfl, _, rfl, ?_⟩
    rw [show ((i : Int) + (W.length : Int)) = ((i + W.length : Nat) : Int) by omega, cutN, show i + W.length - i = W.length by omega]
    unfold skipL at w wx
    rw [← lW] at w wx
    by_cases c : ((TL.tl z).drop i).take W.length = TL.tl W
    · rw [if_pos c] at w
      have e : decide (V.str (SX.S (((TL.tl z).drop i).take W.length)) = V.str W) = true := decide_eq_true (by rw [c, SX.S_tl])
      rw [e]
      refine ifF rfl ⟨_, rfl, w _ rfl ?_ (by rw [List.drop_drop])⟩
      have := congrArg List.length c
      rw [List.length_take, List.length_drop, ← lW, ← TL.len_tl] at this
      omega
    · rw [if_neg c] at wx
      have e : decide (V.str (SX.S (((TL.tl z).drop i).take W.length)) = V.str W) = false := decide_eq_false fun y => c (congrArg TL.tl (V.str.inj y))
      rw [e]
      exact ifT rfl (raise_pe T (Same.refl H) (wx rfl))
theorem ok_p_skip (T : Txt K mg a) : FnOk P w K mg base CX0 1 a.f_p_skip a.fd_p_skip ["text", "start", "wanted"] (sp_p_skip K) := (okx_p_skip T).imp (fun vs H Q E h => by
  obtain ⟨z, W, i, r, rfl, hi, hz, hW, e, w⟩ := h
  exact ⟨z, W, i, rfl, hi, hz, hW, fun _ _ _ _ => w, fun n => by rw [e] at n; cases n⟩)
end
section
variable {P : Program} {w : World} {K : PySem.W.Frag} {mg : Str → Option Value} {base : Heap} {a : Ad}
def sp_p_read_fraction (K : PySem.W.Frag) : Sp := fun _ _ _ _ => False
def spx_p_read_fraction (K : PySem.W.Frag) (a : Ad) : Sp := fun vs H Q E => ∃ (z : Str) (i : Nat), vs = [.str z, .int (i : Int)] ∧ i ≤ z.length ∧ z.length ≤ 3900 ∧ FrQ K a z (rdFr ((TL.tl z).drop i)) H Q E

theorem okx_p_read_fraction (T : Txt K mg a) : FnOk P w K mg base CX0 4 a.f_p_read_fraction a.fd_p_read_fraction ["text", "start"] (spx_p_read_fraction K a) := by
  have G_p_end_of_run := ok_p_end_of_run (P := P) (w := w) (base := base) T
  have G_p_parse_fraction := ok_p_parse_fraction (P := P) (w := w) (base := base) T
  have Gx_p_parse_fraction := okx_p_parse_fraction (P := P) (w := w) (base := base) T
  refine T.F_p_read_fraction.ok sc_p_read_fraction (fun vs H Q E h => ?_) (fun cdv A outer s H vs Q E hr h => ?_)
  · obtain ⟨z, i, rfl, _⟩ := h
    rfl
  · obtain ⟨z, i, rfl, hi, hz, w, wx⟩ := h
    refine ⟨_, (pss_cons (ps_set (i := 2) sc_p_read_fraction.nd rfl (by first | exact Or.inl rfl | exact Or.inr rfl) (pe_call G_p_end_of_run (hr.mono (by first | decide | omega)) (by rfl) T.g_p_end_of_run T.F_p_end_of_run.kp T.b_p_end_of_run .nil pass0 (pa_cons (pv 0) (pa_cons (pv 1) (pa_cons (pe_glob (v := .str "0123456789/") (by rfl) T.c_FRACTION_SIGNS ⟨_, rfl⟩) pa_nil)))))
          (pss_one (ps_ret (pe_tup (pa_cons (pe_call Gx_p_parse_fraction (hr.mono (by first | decide | omega)) (by rfl) T.g_p_parse_fraction T.F_p_parse_fraction.kp T.b_p_parse_fraction .nil pass0 (pa_cons (pe_slice sl_str (pv 0) (po_some (pv 1)) (po_some (pv 2))) pa_nil)) (pa_cons (pv 2) pa_nil)))))), ?_⟩
    have hl := cps_len z
    refine ⟨.str z, rfl, _, rfl, z, _, i, rfl, hi, by omega, ?_⟩
    rw [frS_eq]
    obtain ⟨td, tt⟩ := tw_drop frS ((TL.tl z).drop i)
    have tl := tw_len frS ((TL.tl z).drop i)
    rw [List.length_drop, ← TL.len_tl] at tl
    refine ⟨.str z, rfl, _, rfl, (i : Int), rfl, _, rfl, _, rfl, z, rfl, sz (by omega), ?_⟩
    rw [cutN, Nat.add_sub_cancel_left, tt]
    unfold rdFr at w wx
    refine ⟨_, rfl, by rw [S_len']; omega, fun f hf p H1 s1 hp => ?_, fun hn => ?_⟩
    · have hf' : progP (((TL.tl z).drop i).takeWhile frS) = some f := hf
      rw [hf'] at w
      refine ⟨_, rfl, sz (by show 2 ≤ 100000; decide), fun q nq => ?_⟩
      exact w f _ rfl q p _ _ (s1.trans (Same.new nq)) (by omega) (by rw [← List.drop_drop, td]) (SqT.of upd_same) (Same.T (Same.new nq) hp)
    · have hn' : progP (((TL.tl z).drop i).takeWhile frS) = none := hn
      rw [hn'] at wx
      exact wx rfl
theorem ok_p_read_fraction (T : Txt K mg a) : FnOk P w K mg base CX0 4 a.f_p_read_fraction a.fd_p_read_fraction ["text", "start"] (sp_p_read_fraction K) := (okx_p_read_fraction T).imp (fun vs H Q E h => h.elim)
end
section
variable {P : Program} {w : World} {K : PySem.W.Frag} {mg : Str → Option Value} {base : Heap} {a : Ad}
def sp_p_read_delays (K : PySem.W.Frag) : Sp := fun _ _ _ _ => False
def spx_p_read_delays (K : PySem.W.Frag) (a : Ad) : Sp := fun vs H Q E => ∃ (z : Str) (i : Nat) (v : V) (t : Rw) (n : Nat), vs = [.str z, .int (i : Int), v] ∧ i ≤ z.length ∧ z.length ≤ 3900 ∧ RwAt K H n v t ∧ RdQ K a z (rdDl ((TL.tl z).drop i).length t ((TL.tl z).drop i)) H Q E
theorem dl_step {z : Str} {e : Nat} {t : Rw} {sgn : Int} (h : e + 3 ≤ z.length) (hs : (sgn = 1 ∧ ((TL.tl z).drop e).take 3 = [32, 43, 32]) ∨ (sgn = -1 ∧ ((TL.tl z).drop e).take 3 = [32, 45, 32])) :
    rdDl ((TL.tl z).drop e).length t ((TL.tl z).drop e) = (match rdFr ((TL.tl z).drop (e + 3)) with | none => none | some (f, r) => rdDl r.length (.mk (.dl (some (sgn * f.1, f.2))) [t]) r) := by
  have hl := TL.len_tl z
  obtain ⟨k, hk⟩ : ∃ k, ((TL.tl z).drop e).length = k + 1 := ⟨((TL.tl z).drop e).length - 1, by rw [List.length_drop]; omega⟩
  rw [hk, rdDl, List.drop_drop]
  have fu : ∀ {f : QQ} {r : List Nat} {u : Rw}, rdFr ((TL.tl z).drop (e + 3)) = some (f, r) → rdDl k u r = rdDl r.length u r := fun hr => by
    have := rdFr_len hr
    rw [List.length_drop] at this hk
    exact rdDl_fuel (by omega) (Nat.le_refl _)
  rcases hs with ⟨rfl, c⟩ | ⟨rfl, c⟩
  · rw [if_pos c]
    cases hr : rdFr ((TL.tl z).drop (e + 3)) with
    | none => rfl
    | some fr => exact fu hr
  · rw [if_neg (by rw [c]; decide), if_pos c]
    cases hr : rdFr ((TL.tl z).drop (e + 3)) with
    | none => rfl
    | some fr => exact fu hr

theorem okx_p_read_delays (T : Txt K mg a) : FnOk P w K mg base CX0 5 a.f_p_read_delays a.fd_p_read_delays ["text", "start", "term"] (spx_p_read_delays K a) := by
  have G_p_read_fraction := ok_p_read_fraction (P := P) (w := w) (base := base) T
  have Gx_p_read_fraction := okx_p_read_fraction (P := P) (w := w) (base := base) T
  refine T.F_p_read_delays.ok sc_p_read_delays (fun vs H Q E h => ?_) (fun cdv A outer s H vs Q E hr h => ?_)
  · obtain ⟨z, i, v, t, n, rfl, _⟩ := h
    rfl
  · obtain ⟨z, i, v, t, n, rfl, hi, hz, hv, w, wx⟩ := h
    refine ⟨_, (pss_cons (ps_set (i := 3) sc_p_read_delays.nd rfl (by first | exact Or.inl rfl | exact Or.inr rfl) (pv 1))
          (pss_cons (ps_while PassesOwn.never (pt_cmpR op_in_seq (pe_slice sl_str (pv 0) (po_some (pv 3)) (po_some (pe_op op_add (pv 3) pe_int))) (pe_tup (pa_cons pe_str (pa_cons pe_str pa_nil))) (by rfl)) (pss_cons (ps_set (i := 4) sc_p_read_delays.nd rfl (by first | exact Or.inl rfl | exact Or.inr rfl) (pe_ifExp (pt_cmpR op_eq (pe_ix ix_str (pv 0) (pe_op op_add (pv 3) pe_int) (fun _ _ => rfl)) pe_str (nomark _)) (pe_un un_neg pe_int) pe_int))
          (pss_cons (ps_asg (pe_call Gx_p_read_fraction (hr.mono (by first | decide | omega)) (by rfl) T.g_p_read_fraction T.F_p_read_fraction.kp T.b_p_read_fraction .nil pass0 (pa_cons (pv 0) (pa_cons (pe_op op_add (pv 3) pe_int) pa_nil))) (pg_tup rfl (pgs_cons (pg_name (i := 5) sc_p_read_delays.nd rfl (by first | exact Or.inl rfl | exact Or.inr rfl)) (pgs_cons (pg_name (i := 3) sc_p_read_delays.nd rfl (by first | exact Or.inl rfl | exact Or.inr rfl)) pgs_nil))))
          (pss_one (ps_set (i := 2) sc_p_read_delays.nd rfl (by first | exact Or.inl rfl | exact Or.inr rfl) (pe_tup (pa_cons pe_str (pa_cons (pv 2) (pa_cons (pe_tup (pa_cons (pe_op op_mul (pv 4) (pe_ix ix_tup (pv 5) pe_int (fun _ _ => rfl))) (pa_cons (pe_ix ix_tup (pv 5) pe_int (fun _ _ => rfl)) pa_nil))) pa_nil)))))))))
          (pss_one (ps_ret (pe_tup (pa_cons (pv 2) (pa_cons (pv 3) pa_nil))))))), ?_⟩
    have hl := cps_len z
    have hl2 := TL.len_tl z
    refine ⟨_, rfl, ?_⟩
    refine ⟨fun m σ H' => ∃ (e : Nat) (v' : V) (t' : Rw) (n' : Nat) (y4 y5 : Option V), σ = [some (.str z), some (.int (i : Int)), some v', some (.int (e : Int)), y4, y5] ∧ Same H H' ∧ e ≤ z.length ∧ RwAt K H' n' v' t' ∧ m = z.length - e ∧ rdDl ((TL.tl z).drop i).length t ((TL.tl z).drop i) = rdDl ((TL.tl z).drop e).length t' ((TL.tl z).drop e), ⟨_, i, v, t, n, none, none, rfl, Same.refl H, hi, hv, rfl, rfl⟩, ?_⟩
    rintro m σ H1 ⟨e, v', t', n', y4, y5, rfl, s1, he, hv1, rfl, hE⟩
    refine ⟨.str z, rfl, _, rfl, (e : Int), rfl, _, rfl, _, _, rfl, rfl, ((e : Int) + 3), rfl, z, rfl, sz (by omega), sz (by show 2 ≤ 100000; decide), fun c nc => ?_⟩
    rw [show ((e : Int) + 3) = ((e + 3 : Nat) : Int) by omega, cutN, show e + 3 - e = 3 by omega]
    have sc := Same.new (o := .tup [.str " + ", .str " - "]) nc
    refine ⟨c, _, rfl, .inr (SqT.of upd_same), rfl, rfl, _, rfl, ?_⟩
    rw [in_pm]
    have hv2 := hv1.same sc
    have s2 := s1.trans sc
    generalize upd H1 c (.tup [.str " + ", .str " - "]) = H2 at *
    by_cases pm : ((TL.tl z).drop e).take 3 = [32, 43, 32] ∨ ((TL.tl z).drop e).take 3 = [32, 45, 32]
    · have e3 : e + 3 ≤ z.length := by
        rcases pm with q | q <;>
        · have := congrArg List.length q
          rw [List.length_take, List.length_drop, ← hl2] at this
          have : min 3 (z.length - e) = 3 := this
          omega
      refine ifT (by rcases pm with q | q <;> rw [decide_eq_true q] <;> simp) ?_
      refine ⟨fun σ' H' => ∃ (e' : Nat) (v' : V) (t' : Rw) (n' : Nat) (y4 y5 : Option V), σ' = [some (.str z), some (.int (i : Int)), some v', some (.int (e' : Int)), y4, y5] ∧ Same H H' ∧ e' ≤ z.length ∧ e < e' ∧ RwAt K H' n' v' t' ∧ rdDl ((TL.tl z).drop i).length t ((TL.tl z).drop i) = rdDl ((TL.tl z).drop e').length t' ((TL.tl z).drop e'), ?_, ?_⟩
      · rintro σ' H' ⟨e', v', t', n', y4, y5, rfl, s', he', lt, hv', hE'⟩
        exact ⟨z.length - e', by omega, e', v', t', n', y4, y5, rfl, s', he', hv', rfl, hE'⟩
      refine go_seq (go_asg ?_)
      refine both (te := tIf _ _ _) (fun v H' => H' = H2 ∧ ∃ sgn : Int, v = .int sgn ∧ ((sgn = 1 ∧ ((TL.tl z).drop e).take 3 = [32, 43, 32]) ∨ (sgn = -1 ∧ ((TL.tl z).drop e).take 3 = [32, 45, 32]))) (fun sv H3 h3 => ?_) (fun Q' hQ => ?_)
      rotate_left
      · have at1 : ∀ k, ((TL.tl z).drop e).take 3 = [32, k, 32] → (TL.tl z)[e + 1]? = some k := fun k q => by
          have e1 : (((TL.tl z).drop e).take 3)[1]? = some k := by rw [q]; rfl
          rw [List.getElem?_take, if_pos (by decide), List.getElem?_drop] at e1
          exact e1
        have mS : ("-" : Str) = SX.S [45] := TL.ext_tl (by decide +kernel)
        rcases pm with q | q
        · refine ⟨.str z, rfl, _, rfl, _, _, rfl, rfl, z, _, 43, rfl, rfl, sz (by omega), atI_nat (j := e + 1) (at1 43 q), rfl, _, rfl, ifF (decide_eq_false fun y => ?_) (hQ _ _ ⟨rfl, 1, rfl, .inl ⟨rfl, q⟩⟩)⟩
          rw [mS] at y
          have := congrArg TL.tl (V.str.inj y)
          cases this
        · refine ⟨.str z, rfl, _, rfl, _, _, rfl, rfl, z, _, 45, rfl, rfl, sz (by omega), atI_nat (j := e + 1) (at1 45 q), rfl, _, rfl, ifT (decide_eq_true ?_) ⟨1, rfl, hQ _ _ ⟨rfl, -1, rfl, .inr ⟨rfl, q⟩⟩⟩⟩
          rw [mS]
      obtain ⟨rfl, sgn, rfl, hs⟩ := h3
      have st := dl_step (t := t') e3 hs
      refine ⟨.str z, rfl, _, rfl, _, _, rfl, rfl, z, e + 3, rfl, e3, hz, fun f r hr p q e' H4 s4 he' hd hp hq => ?_, fun hn => ?_⟩
      · rw [hr] at st
        have bd := rdFr_bd hr
        have sgB : sgn = 1 ∨ sgn = -1 := hs.elim (fun y => .inl y.1) (fun y => .inr y.1)
        refine ⟨p, _, rfl, hp, rfl, _, _, rfl, _, _, rfl, rfl, ?_⟩
        refine ⟨_, rfl, _, rfl, _, rfl, q, _, 0, _, rfl, rfl, hq, rfl, sgn, f.1, rfl, rfl, .inl ⟨by omega, by omega⟩, _, rfl, q, _, 1, _, rfl, rfl, hq, rfl, sz (by show 2 ≤ 100000; decide), fun q2 nq2 => ⟨sz (by show 3 ≤ 100000; decide), fun p2 np2 => ?_⟩⟩
        have s5 := Same.new (o := .tup [.int (sgn * f.1), .int f.2]) nq2
        have s6 := Same.new (o := .tup [.str "delay", v', .ref q2]) np2
        have bs : (sgn * f.1).natAbs = f.1.natAbs := natAbs_sgn sgB
        have dl : e < e' := by
          have := rdFr_len hr
          rw [← hd, List.length_drop, List.length_drop, ← hl2] at this
          omega
        refine ⟨e', .ref p2, .mk (.dl (some (sgn * f.1, f.2))) [t'], n' + 1, _, _, rfl, s2.trans (s4.trans (s5.trans s6)), he', dl, ?_, by rw [hE, st, hd]⟩
        exact mkDl (SqT.of upd_same) ⟨⟨q2, rfl, Same.T s6 (SqT.of upd_same)⟩, by rw [bs]; exact bd.1, bd.2⟩ (hv2.same (s4.trans (s5.trans s6)))
      · rw [hn] at st
        exact RzP.same s2 (wx (by rw [hE]; exact st))
    · have n1 : ¬ ((TL.tl z).drop e).take 3 = [32, 43, 32] := fun y => pm (.inl y)
      have n2 : ¬ ((TL.tl z).drop e).take 3 = [32, 45, 32] := fun y => pm (.inr y)
      refine ifF (by rw [decide_eq_false n1, decide_eq_false n2]; rfl) ?_
      have key : ∀ l : List Nat, ¬ l.take 3 = [32, 43, 32] → ¬ l.take 3 = [32, 45, 32] → rdDl l.length t' l = some (t', l) := fun l k1 k2 => by
        cases l with
        | nil => rfl
        | cons c r => rw [List.length_cons, rdDl, if_neg k1, if_neg k2]
      have hE2 := key _ n1 n2
      rw [hE2] at hE
      refine ⟨_, rfl, _, rfl, sz (by show 2 ≤ 100000; decide), fun q nq => ?_⟩
      exact w _ _ hE q v' n' e _ (s2.trans (Same.new nq)) he rfl (SqT.of upd_same) (hv2.same (Same.new nq))
theorem ok_p_read_delays (T : Txt K mg a) : FnOk P w K mg base CX0 5 a.f_p_read_delays a.fd_p_read_delays ["text", "start", "term"] (sp_p_read_delays K) := (okx_p_read_delays T).imp (fun vs H Q E h => h.elim)
end
section
variable {P : Program} {w : World} {K : PySem.W.Frag} {mg : Str → Option Value} {base : Heap} {a : Ad}
theorem okx_p_read_operand_of (T : Txt K mg a) {m : Nat} (Gx_p_read_term : FnOk P w K mg base CX0 (10 + 3 * m) a.f_p_read_term a.fd_p_read_term ["text", "start", "level"] (spxRT K a m)) : FnOk P w K mg base CX0 (10 + 3 * m + 1) a.f_p_read_operand a.fd_p_read_operand ["text", "start", "kind", "level"] (spxRO K a m) := by
  have G_p_read_fraction := ok_p_read_fraction (P := P) (w := w) (base := base) T
  have G_p_skip := ok_p_skip (P := P) (w := w) (base := base) T
  have Gx_p_read_fraction := okx_p_read_fraction (P := P) (w := w) (base := base) T
  have Gx_p_skip := okx_p_skip (P := P) (w := w) (base := base) T
  refine T.F_p_read_operand.ok sc_p_read_operand (fun vs H Q E h => ?_) (fun cdv A outer s H vs Q E hr h => ?_)
  · obtain ⟨z, k, i, lv, rfl, _⟩ := h
    rfl
  obtain ⟨z, k, i, lv, rfl, hlv, hi, hz, w, wx⟩ := h
  refine ⟨_, (pss_cons (ps_if (pt_cmpR op_ne (pv 2) pe_str (nomark _)) (pss_one (ps_ret (pe_call Gx_p_read_term (hr.mono (by first | decide | omega)) (by rfl) T.g_p_read_term T.F_p_read_term.kp T.b_p_read_term .nil pass0 (pa_cons (pv 0) (pa_cons (pv 1) (pa_cons (pv 3) pa_nil)))))) pss_nil)
      (pss_cons (ps_asg (pe_call Gx_p_read_fraction (hr.mono (by first | decide | omega)) (by rfl) T.g_p_read_fraction T.F_p_read_fraction.kp T.b_p_read_fraction .nil pass0 (pa_cons (pv 0) (pa_cons (pv 1) pa_nil))) (pg_tup rfl (pgs_cons (pg_name (i := 4) sc_p_read_operand.nd rfl (by first | exact Or.inl rfl | exact Or.inr rfl)) (pgs_cons (pg_name (i := 5) sc_p_read_operand.nd rfl (by first | exact Or.inl rfl | exact Or.inr rfl)) pgs_nil))))
      (pss_cons (ps_asg (pe_call Gx_p_read_term (hr.mono (by first | decide | omega)) (by rfl) T.g_p_read_term T.F_p_read_term.kp T.b_p_read_term .nil pass0 (pa_cons (pv 0) (pa_cons (pe_call Gx_p_skip (hr.mono (by first | decide | omega)) (by rfl) T.g_p_skip T.F_p_skip.kp T.b_p_skip .nil pass0 (pa_cons (pv 0) (pa_cons (pv 5) (pa_cons pe_str pa_nil)))) (pa_cons (pv 3) pa_nil)))) (pg_tup rfl (pgs_cons (pg_name (i := 6) sc_p_read_operand.nd rfl (by first | exact Or.inl rfl | exact Or.inr rfl)) (pgs_cons (pg_name (i := 5) sc_p_read_operand.nd rfl (by first | exact Or.inl rfl | exact Or.inr rfl)) pgs_nil))))
      (pss_one (ps_ret (pe_tup (pa_cons (pe_tup (pa_cons (pv 4) (pa_cons (pv 6) pa_nil))) (pa_cons (pv 5) pa_nil)))))))), ?_⟩
  rw [isMix_eq] at w wx
  by_cases mx : k = "mix"
  · rw [decide_eq_true mx] at w wx
    refine ⟨_, rfl, rfl, _, rfl, ifF (by rw [mx]; simp) ?_⟩
    unfold rdOp at w wx
    rw [if_pos rfl] at w wx
    refine ⟨_, rfl, _, rfl, z, i, rfl, hi, hz, fun f r hr0 p q e H1 s1 he hd hp hq => ?_, fun hn => ?_⟩
    · rw [hr0] at w wx
      dsimp only at w wx
      have bd := rdFr_bd hr0
      refine ⟨p, _, rfl, hp, rfl, _, _, rfl, _, _, rfl, rfl, ?_⟩
      refine ⟨_, rfl, _, rfl, _, rfl, z, " ", e, rfl, he, by omega, by decide +kernel, fun r1 hr1 hle hd1 => ?_, fun hn => ?_⟩
      · rw [hd] at hr1
        have hr1' : skipL [32] r = some r1 := by rw [blank_S] at hr1; exact hr1
        rw [hr1'] at w wx
        dsimp only at w wx
        refine ⟨_, rfl, z, e + (" " : Str).length, lv, rfl, hlv, hle, hz, fun t r2 hr2 p2 v2 n2 e2 H2 s2 he2 hd2 hp2 hv2 => ?_, fun hn => ?_⟩
        · rw [hd1] at hr2
          rw [hr2] at w
          refine ⟨p2, _, rfl, hp2, rfl, _, _, rfl, _, _, rfl, rfl, ?_⟩
          refine ⟨_, rfl, _, rfl, sz (by show 2 ≤ 100000; decide), fun q3 nq3 => ⟨_, rfl, sz (by show 2 ≤ 100000; decide), fun p3 np3 => ?_⟩⟩
          have s3 := Same.new (o := .tup [.ref q, v2]) nq3
          have s4 := Same.new (o := .tup [.ref q3, .int (e2 : Int)]) np3
          exact w _ _ rfl p3 (.ref q3) n2 e2 _ (s1.trans (s2.trans (s3.trans s4))) he2 hd2 (SqT.of upd_same) ⟨q3, .ref q, v2, rfl, Same.T s4 (SqT.of upd_same), ⟨⟨q, rfl, Same.T (s2.trans (s3.trans s4)) hq⟩, bd.1, bd.2⟩, hv2.same (s3.trans s4)⟩
        · rw [hd1] at hn
          rw [hn] at wx
          exact RzP.same s1 (wx rfl)
      · rw [hd] at hn
        have hn' : skipL [32] r = none := by rw [blank_S] at hn; exact hn
        rw [hn'] at wx
        exact RzP.same s1 (wx rfl)
    · rw [hn] at wx
      exact wx rfl
  · rw [decide_eq_false mx] at w wx
    refine ⟨_, rfl, rfl, _, rfl, ifT (by simp [mx]) ?_⟩
    unfold rdOp at w wx
    rw [if_neg Bool.false_ne_true] at w wx
    refine ⟨_, rfl, _, rfl, _, rfl, z, i, lv, rfl, hlv, hi, hz, fun t r hr0 p v n e H1 s1 he hd hp hv => ?_, fun hn => ?_⟩
    · rw [hr0] at w
      exact w _ _ rfl p v n e H1 s1 he hd hp hv
    · rw [hn] at wx
      exact wx rfl
end
section
variable {P : Program} {w : World} {K : PySem.W.Frag} {mg : Str → Option Value} {base : Heap} {a : Ad}
theorem okx_p_read_operands_of (T : Txt K mg a) {m : Nat} (Gx_p_read_operand : FnOk P w K mg base CX0 (10 + 3 * m + 1) a.f_p_read_operand a.fd_p_read_operand ["text", "start", "kind", "level"] (spxRO K a m)) : FnOk P w K mg base CX0 (10 + 3 * m + 2) a.f_p_read_operands a.fd_p_read_operands ["text", "start", "kind", "level"] (spxROs K a m) := by
  have G_p_skip := ok_p_skip (P := P) (w := w) (base := base) T
  have Gx_p_skip := okx_p_skip (P := P) (w := w) (base := base) T
  refine T.F_p_read_operands.ok sc_p_read_operands (fun vs H Q E h => ?_) (fun cdv A outer s H vs Q E hr h => ?_)
  · obtain ⟨z, k, i, lv, rfl, _⟩ := h
    rfl
  obtain ⟨z, k, i, lv, rfl, hlv, hi, hz, hk, w, wx⟩ := h
  refine ⟨_, (pss_cons (ps_asg (pe_call Gx_p_read_operand (hr.mono (by first | decide | omega)) (by rfl) T.g_p_read_operand T.F_p_read_operand.kp T.b_p_read_operand .nil pass0 (pa_cons (pv 0) (pa_cons (pe_call Gx_p_skip (hr.mono (by first | decide | omega)) (by rfl) T.g_p_skip T.F_p_skip.kp T.b_p_skip .nil pass0 (pa_cons (pv 0) (pa_cons (pv 1) (pa_cons pe_str pa_nil)))) (pa_cons (pv 2) (pa_cons (pv 3) pa_nil))))) (pg_tup rfl (pgs_cons (pg_name (i := 4) sc_p_read_operands.nd rfl (by first | exact Or.inl rfl | exact Or.inr rfl)) (pgs_cons (pg_name (i := 5) sc_p_read_operands.nd rfl (by first | exact Or.inl rfl | exact Or.inr rfl)) pgs_nil))))
      (pss_cons (ps_set (i := 6) sc_p_read_operands.nd rfl (by first | exact Or.inl rfl | exact Or.inr rfl) (pe_lst (pa_cons (pv 4) pa_nil)))
      (pss_cons (ps_while PassesOwn.never (pt_cmpR op_eq (pe_slice sl_str (pv 0) (po_some (pv 5)) (po_some (pe_op op_add (pv 5) pe_int))) pe_str (nomark _)) (pss_cons (ps_asg (pe_call Gx_p_read_operand (hr.mono (by first | decide | omega)) (by rfl) T.g_p_read_operand T.F_p_read_operand.kp T.b_p_read_operand .nil pass0 (pa_cons (pv 0) (pa_cons (pe_call Gx_p_skip (hr.mono (by first | decide | omega)) (by rfl) T.g_p_skip T.F_p_skip.kp T.b_p_skip .nil pass0 (pa_cons (pv 0) (pa_cons (pv 5) (pa_cons pe_str pa_nil)))) (pa_cons (pv 2) (pa_cons (pv 3) pa_nil))))) (pg_tup rfl (pgs_cons (pg_name (i := 4) sc_p_read_operands.nd rfl (by first | exact Or.inl rfl | exact Or.inr rfl)) (pgs_cons (pg_name (i := 5) sc_p_read_operands.nd rfl (by first | exact Or.inl rfl | exact Or.inr rfl)) pgs_nil))))
      (pss_one (ps_expr (pe_bm PySem.F.plainAttrs_list PySem.F.slot_list_append PySem.F.type_list_append mt_append (pv 6) (pa_cons (pv 4) pa_nil))))))
      (pss_one (ps_ret (pe_tup (pa_cons (pe_tup (pa_cons (pv 2) (StX.pa_star (pv 6) pa_nil))) (pa_cons (pe_call Gx_p_skip (hr.mono (by first | decide | omega)) (by rfl) T.g_p_skip T.F_p_skip.kp T.b_p_skip .nil pass0 (pa_cons (pv 0) (pa_cons (pv 5) (pa_cons pe_str pa_nil)))) pa_nil)))))))), ?_⟩
  have hl2 := TL.len_tl z
  have l1 : ("(" : Str).length = 1 := by decide +kernel
  have l2 : (", " : Str).length = 2 := by decide +kernel
  have l3 : (")" : Str).length = 1 := by decide +kernel
  unfold rdOps at w wx
  refine ⟨_, rfl, _, rfl, _, rfl, z, "(", i, rfl, hi, by omega, by omega, fun r1 hr1 hle hd1 => ?_, fun hn => ?_⟩
  rotate_left
  · have hn' : skipL [40] ((TL.tl z).drop i) = none := by rw [open_S] at hn; exact hn
    rw [hn'] at wx
    exact wx rfl
  have hr1' : skipL [40] ((TL.tl z).drop i) = some r1 := by rw [open_S] at hr1; exact hr1
  rw [hr1'] at w wx
  dsimp only at w wx
  refine ⟨_, rfl, _, rfl, z, k, i + ("(" : Str).length, lv, rfl, hlv, hle, hz, fun o r2 hr2 p v n e H1 s1 he hd hp hv => ?_, fun hn => ?_⟩
  rotate_left
  · rw [hd1] at hn
    rw [hn] at wx
    exact wx rfl
  rw [hd1] at hr2
  have ln := rdOp_len (rdT_len m) hr2
  rw [hr2] at w wx
  dsimp only at w wx
  have e1 : 1 ≤ e := by
    rw [← hd1, ← hd, List.length_drop, List.length_drop, ← hl2] at ln
    omega
  refine ⟨p, _, rfl, hp, rfl, _, _, rfl, _, _, rfl, rfl, ?_⟩
  refine ⟨_, rfl, sz (by show 1 ≤ 100000; decide), fun l nl => ?_⟩
  have sl := Same.new (o := .lst [v]) nl
  have nl0 : H l = none := s1.free nl
  refine ⟨fun μ σ H' => ∃ (e' : Nat) (ov : V) (os : List (QQ × Rw)) (xs : List V) (n' : Nat), σ = [some (.str z), some (.int (i : Int)), some (.str k), some (.int (lv : Int)), some ov, some (.int (e' : Int)), some (.ref l)] ∧ Same H H' ∧ e' ≤ z.length ∧ H' l = some (.lst xs) ∧ OpsAt K H' n' (isMix (TL.tl k)) xs os ∧ μ = z.length - e' ∧ 2 * os.length ≤ e' + 2 ∧ rdMore (rdT m) (isMix (TL.tl k)) r2.length [o] r2 = rdMore (rdT m) (isMix (TL.tl k)) ((TL.tl z).drop e').length os ((TL.tl z).drop e'), ⟨_, e, v, [o], [v], n, rfl, s1.trans sl, he, upd_same, ⟨hv.imp (fun _ _ y => Same.T sl y) (Nat.le_refl _), trivial⟩, rfl, by show 2 * 1 ≤ e + 2; omega, by rw [hd]⟩, ?_⟩
  rintro μ σ H2 ⟨e', ov, os, xs, n', rfl, s2, he', hl, hO, rfl, hb, hE⟩
  refine ⟨_, rfl, _, rfl, (e' : Int), rfl, _, rfl, _, _, rfl, rfl, ((e' : Int) + 1), rfl, z, rfl, sz (by omega), rfl, _, rfl, ?_⟩
  rw [show ((e' : Int) + 1) = ((e' + 1 : Nat) : Int) by omega, cutN, show e' + 1 - e' = 1 by omega]
  have cS : ("," : Str) = SX.S [44] := TL.ext_tl (by decide +kernel)
  by_cases c : ((TL.tl z).drop e').take 1 = [44]
  · refine ifT (decide_eq_true (by rw [c, cS])) ?_
    refine ⟨fun σ' H' => ∃ (e2 : Nat) (ov : V) (os : List (QQ × Rw)) (xs : List V) (n' : Nat), σ' = [some (.str z), some (.int (i : Int)), some (.str k), some (.int (lv : Int)), some ov, some (.int (e2 : Int)), some (.ref l)] ∧ Same H H' ∧ e2 ≤ z.length ∧ e' < e2 ∧ H' l = some (.lst xs) ∧ OpsAt K H' n' (isMix (TL.tl k)) xs os ∧ 2 * os.length ≤ e2 + 2 ∧ rdMore (rdT m) (isMix (TL.tl k)) r2.length [o] r2 = rdMore (rdT m) (isMix (TL.tl k)) ((TL.tl z).drop e2).length os ((TL.tl z).drop e2), ?_, ?_⟩
    · rintro σ' H' ⟨e2, ov, os, xs, n', rfl, s', he2, lt, hl', hO', hb', hE'⟩
      exact ⟨z.length - e2, by omega, e2, ov, os, xs, n', rfl, s', he2, hl', hO', rfl, hb', hE'⟩
    rw [more_step (rdT_len m) c] at hE
    refine ⟨_, rfl, _, rfl, _, rfl, z, ", ", e', rfl, he', by omega, by omega, fun r3 hr3 hle3 hd3 => ?_, fun hn => ?_⟩
    rotate_left
    · have hn' : skipL [44, 32] ((TL.tl z).drop e') = none := by rw [comma_S] at hn; exact hn
      rw [hn'] at hE
      rw [hE] at wx
      exact RzP.same s2 (wx rfl)
    have hr3' : skipL [44, 32] ((TL.tl z).drop e') = some r3 := by rw [comma_S] at hr3; exact hr3
    rw [hr3'] at hE
    dsimp only at hE
    refine ⟨_, rfl, _, rfl, z, k, e' + (", " : Str).length, lv, rfl, hlv, hle3, hz, fun o4 r4 hr4 p4 v4 n4 e4 H4 s4 he4 hd4 hp4 hv4 => ?_, fun hn => ?_⟩
    rotate_left
    · rw [hd3] at hn
      rw [hn] at hE
      rw [hE] at wx
      exact RzP.same s2 (wx rfl)
    rw [hd3] at hr4
    have ln4 := rdOp_len (rdT_len m) hr4
    rw [hr4] at hE
    dsimp only at hE
    have e4' : e' + 2 ≤ e4 := by
      rw [← hd3, ← hd4, List.length_drop, List.length_drop, ← hl2] at ln4
      omega
    refine ⟨p4, _, rfl, hp4, rfl, _, _, rfl, _, _, rfl, rfl, ?_⟩
    have hl4 := s4 _ _ hl
    have xl := hO.len
    refine ⟨_, rfl, .inl ⟨rfl, _, SqL.of hl4⟩, _, rfl, l, _, _, rfl, rfl, hl4, szl (by omega), ?_⟩
    refine ⟨e4, v4, os ++ [o4], xs ++ [v4], max n' n4, rfl, fun b u q => ?_, he4, by omega, upd_same, ?_, by rw [List.length_append]; show 2 * (_ + 1) ≤ _; omega, by rw [hE, hd4]⟩
    · rw [upd_ne (ne_of_none q nl0)]
      exact s4 _ _ (s2 _ _ q)
    · have put : ∀ p ys, SqT K H4 p ys → SqT K (upd H4 l (.lst (xs ++ [v4]))) p ys := fun _ _ y => sqPut y hl4
      exact (hO.imp (fun _ _ y => put _ _ (Same.T s4 y)) (Nat.le_max_left _ _)).snoc (hv4.imp put (Nat.le_max_right _ _))
  · refine ifF (decide_eq_false fun y => c ?_) ?_
    · have y' := V.str.inj y
      rw [cS] at y'
      exact congrArg TL.tl y'
    rw [more_stop c] at hE
    rw [hE] at w wx
    dsimp only at w wx
    have xl := hO.len
    refine ⟨_, rfl, _, rfl, l, xs, rfl, .inr (SqL.of hl), sz (by rw [List.append_nil, List.length_cons]; omega), fun c2 nc2 => ?_⟩
    rw [List.append_nil]
    have s3 := Same.new (o := .tup (.str k :: xs)) nc2
    refine ⟨_, rfl, _, rfl, z, ")", e', rfl, he', by omega, by omega, fun r5 hr5 hle5 hd5 => ?_, fun hn => ?_⟩
    · have hr5' : skipL [41] ((TL.tl z).drop e') = some r5 := by rw [close_S] at hr5; exact hr5
      rw [hr5'] at w
      refine ⟨sz (by show 2 ≤ 100000; decide), fun p3 np3 => ?_⟩
      have s4 := Same.new (o := .tup [.ref c2, .int ((e' + (")" : Str).length : Nat) : Int)]) np3
      exact w _ _ rfl p3 (.ref c2) (n' + 1) _ _ (s2.trans (s3.trans s4)) hle5 hd5 (SqT.of upd_same) (OpsAt.node hk (by omega) (Same.T s4 (SqT.of upd_same)) (hO.imp (fun _ _ y => Same.T (s3.trans s4) y) (Nat.le_refl _)))
    · have hn' : skipL [41] ((TL.tl z).drop e') = none := by rw [close_S] at hn; exact hn
      rw [hn'] at wx
      exact RzP.same (s2.trans s3) (wx rfl)
end
section
variable {P : Program} {w : World} {K : PySem.W.Frag} {mg : Str → Option Value} {base : Heap} {a : Ad}
def spx_p_read_term (K : PySem.W.Frag) (a : Ad) : Sp := spxRT K a 10

theorem okx_p_read_term_of (T : Txt K mg a) {m : Nat} {spo : Sp} (Gx_p_read_operands : FnOk P w K mg base CX0 (9 + 3 * m) a.f_p_read_operands a.fd_p_read_operands ["text", "start", "kind", "level"] spo) (ho : ∀ k, m = k + 1 → spo = spxROs K a k) : FnOk P w K mg base CX0 (10 + 3 * m) a.f_p_read_term a.fd_p_read_term ["text", "start", "level"] (spxRT K a m) := by
  have G_p_end_of_run := ok_p_end_of_run (P := P) (w := w) (base := base) T
  have G_p_read_delays := ok_p_read_delays (P := P) (w := w) (base := base) T
  have Gx_p_read_delays := okx_p_read_delays (P := P) (w := w) (base := base) T
  have hm9 : 9 + 3 * m + 1 = 10 + 3 * m := by omega
  rw [← hm9]
  refine T.F_p_read_term.ok sc_p_read_term (fun vs H Q E h => ?_) (fun cdv A outer s H vs Q E hr h => ?_)
  · obtain ⟨z, i, lv, rfl, _⟩ := h
    rfl
  obtain ⟨z, i, lv, rfl, hlv, hi, hz, w, wx⟩ := h
  refine ⟨_, (pss_cons (ps_if (pt_cmpR op_gt (pv 2) (pe_glob (v := .int 10) (by rfl) T.c_MAX_DEPTH ⟨_, rfl⟩) (nomark _)) (pss_one ps_never) pss_nil)
      (pss_cons (ps_set (i := 3) sc_p_read_term.nd rfl (by first | exact Or.inl rfl | exact Or.inr rfl) (pe_call G_p_end_of_run (hr.mono (by first | decide | omega)) (by rfl) T.g_p_end_of_run T.F_p_end_of_run.kp T.b_p_end_of_run .nil pass0 (pa_cons (pv 0) (pa_cons (pv 1) (pa_cons (pe_glob (v := .str "abcdefghijklmnopqrstuvwxyz") (by rfl) T.c_LETTERS ⟨_, rfl⟩) pa_nil)))))
      (pss_cons (ps_set (i := 4) sc_p_read_term.nd rfl (by first | exact Or.inl rfl | exact Or.inr rfl) (pe_slice sl_str (pv 0) (po_some (pv 1)) (po_some (pv 3))))
      (pss_cons (ps_if (pt_cmpR op_in_seq (pv 4) (pe_glob (v := .ref a.o_KEYWORDS) (by rfl) T.c_KEYWORDS rfl) (by rfl)) (pss_one (ps_asg (pe_call Gx_p_read_operands (hr.mono (by first | decide | omega)) (by rfl) T.g_p_read_operands T.F_p_read_operands.kp T.b_p_read_operands .nil pass0 (pa_cons (pv 0) (pa_cons (pv 3) (pa_cons (pv 4) (pa_cons (pe_op op_add (pv 2) pe_int) pa_nil))))) (pg_tup rfl (pgs_cons (pg_name (i := 5) sc_p_read_term.nd rfl (by first | exact Or.inl rfl | exact Or.inr rfl)) (pgs_cons (pg_name (i := 3) sc_p_read_term.nd rfl (by first | exact Or.inl rfl | exact Or.inr rfl)) pgs_nil))))) (pss_one (ps_set (i := 5) sc_p_read_term.nd rfl (by first | exact Or.inl rfl | exact Or.inr rfl) (pe_tup (pa_cons pe_str (pa_cons (pv 4) pa_nil))))))
      (pss_one (ps_ret (pe_call Gx_p_read_delays (hr.mono (by first | decide | omega)) (by rfl) T.g_p_read_delays T.F_p_read_delays.kp T.b_p_read_delays .nil pass0 (pa_cons (pv 0) (pa_cons (pv 3) (pa_cons (pv 5) pa_nil)))))))))), ?_⟩
  have hl2 := TL.len_tl z
  cases m with
  | zero => exact ⟨_, rfl, (lv : Int), 10, rfl, rfl, _, rfl, ifT (decide_eq_true (by omega)) (raise_pe T (Same.refl H) (wx rfl))⟩
  | succ m =>
    have ho' := ho m rfl
    subst ho'
    refine ⟨_, rfl, (lv : Int), 10, rfl, rfl, _, rfl, ifF (decide_eq_false (by omega)) ?_⟩
    refine ⟨_, rfl, _, rfl, z, _, i, rfl, hi, by omega, ?_⟩
    rw [lowB_eq]
    obtain ⟨td, tt⟩ := tw_drop lowB ((TL.tl z).drop i)
    have tl := tw_len lowB ((TL.tl z).drop i)
    rw [List.length_drop, ← TL.len_tl] at tl
    rw [List.drop_drop] at td
    refine ⟨_, rfl, _, rfl, (i : Int), rfl, _, rfl, _, rfl, z, rfl, sz (by omega), ?_⟩
    rw [cutN, Nat.add_sub_cancel_left, tt]
    rw [rdT] at w wx
    refine ⟨_, rfl, _, _, rfl, .inr (T.t_KEYWORDS H), rfl, rfl, _, rfl, ?_⟩
    have kwe : inV (.str (SX.S (((TL.tl z).drop i).takeWhile lowB))) [.str "max", .str "min", .str "median", .str "mix"] = isKw (((TL.tl z).drop i).takeWhile lowB) := rfl
    rw [kwe]
    cases kw : isKw (((TL.tl z).drop i).takeWhile lowB) with
    | true =>
      rw [kw, if_pos rfl] at w wx
      refine ifT rfl ?_
      refine ⟨_, rfl, _, rfl, _, rfl, _, rfl, _, _, rfl, rfl, z, SX.S (((TL.tl z).drop i).takeWhile lowB), i + (((TL.tl z).drop i).takeWhile lowB).length, lv + 1, rfl, by omega, by omega, hz, kw, fun t r hr0 p v n e H1 s1 he hd hp hv => ?_, fun hn => ?_⟩
      · rw [td] at hr0
        have hr1 : rdOps (rdT m) (((TL.tl z).drop i).takeWhile lowB) (((TL.tl z).drop i).dropWhile lowB) = some (t, r) := hr0
        rw [hr1] at w wx
        dsimp only at w wx
        refine ⟨p, _, rfl, hp, rfl, _, _, rfl, _, _, rfl, rfl, ?_⟩
        refine ⟨_, rfl, _, rfl, _, rfl, z, e, v, t, n, rfl, he, hz, hv, ?_⟩
        rw [hd]
        exact ⟨fun t2 r2 h2 p2 v2 n2 e2 H2 s2 => w t2 r2 h2 p2 v2 n2 e2 H2 (s1.trans s2), fun h2 => RzP.same s1 (wx h2)⟩
      · rw [td] at hn
        have hn1 : rdOps (rdT m) (((TL.tl z).drop i).takeWhile lowB) (((TL.tl z).drop i).dropWhile lowB) = none := hn
        rw [hn1] at wx
        exact wx rfl
    | false =>
      rw [kw, if_neg Bool.false_ne_true] at w wx
      refine ifF rfl ?_
      refine ⟨_, rfl, sz (by show 2 ≤ 100000; decide), fun c nc => ?_⟩
      have sc := Same.new (o := .tup [.str "event", .str (SX.S (((TL.tl z).drop i).takeWhile lowB))]) nc
      refine ⟨_, rfl, _, rfl, _, rfl, z, i + (((TL.tl z).drop i).takeWhile lowB).length, .ref c, .mk (.ev [SX.S (((TL.tl z).drop i).takeWhile lowB)]) [], 1, rfl, by omega, hz, mkEv (by show 1 ≤ 2000; decide) (fun s hs => ?_) (SqT.of upd_same), ?_⟩
      · rw [List.mem_singleton.mp hs, S_len']
        omega
      · rw [td]
        exact ⟨fun t2 r2 h2 p2 v2 n2 e2 H2 s2 => w t2 r2 h2 p2 v2 n2 e2 H2 (sc.trans s2), fun h2 => RzP.same sc (wx h2)⟩
theorem okx_p_read_term_n (T : Txt K mg a) : ∀ m, FnOk P w K mg base CX0 (10 + 3 * m) a.f_p_read_term a.fd_p_read_term ["text", "start", "level"] (spxRT K a m)
  | 0 => okx_p_read_term_of T (spo := fun _ _ _ _ => False) fn_false (fun k h => by omega)
  | m + 1 => okx_p_read_term_of T ((okx_p_read_operands_of T (okx_p_read_operand_of T (okx_p_read_term_n T m))).mono (by omega)) (fun k h => by cases h; rfl)
theorem okx_p_read_term (T : Txt K mg a) : FnOk P w K mg base CX0 40 a.f_p_read_term a.fd_p_read_term ["text", "start", "level"] (spx_p_read_term K a) := okx_p_read_term_n T 10
end
section
variable {P : Program} {w : World} {K : PySem.W.Frag} {mg : Str → Option Value} {base : Heap} {a : Ad}
def sp_p_parse_term (K : PySem.W.Frag) : Sp := fun vs H Q _ => ∃ (z : Str) (t : Rw), vs = [.str z] ∧ z.length ≤ 3900 ∧ parseT (TL.tl z) = some t ∧ ∀ v H', Same H H' → RwAt K H' 10 v t → Q v H'
def spx_p_parse_term (K : PySem.W.Frag) (a : Ad) : Sp := fun vs H Q E => ∃ z : Str, vs = [.str z] ∧ z.length ≤ 3900 ∧ (∀ t, parseT (TL.tl z) = some t → ∀ v H', Same H H' → RwAt K H' 10 v t → Q v H') ∧ (parseT (TL.tl z) = none → RzP a E H)

theorem okx_p_parse_term (T : Txt K mg a) : FnOk P w K mg base CX0 41 a.f_p_parse_term a.fd_p_parse_term ["text"] (spx_p_parse_term K a) := by
  have G_p_format_term := ok_p_format_term (P := P) (w := w) (base := base) T
  have G_p_is_valid_term := ok_p_is_valid_term (P := P) (w := w) (base := base) T
  have Gx_p_read_term := okx_p_read_term (P := P) (w := w) (base := base) T
  refine T.F_p_parse_term.ok sc_p_parse_term (fun vs H Q E h => ?_) (fun cdv A outer s H vs Q E hr h => ?_)
  · obtain ⟨z, rfl, _⟩ := h
    rfl
  · obtain ⟨z, rfl, hz, w, wx⟩ := h
    refine ⟨_, (pss_cons (ps_asg (pe_call Gx_p_read_term (hr.mono (by first | decide | omega)) (by rfl) T.g_p_read_term T.F_p_read_term.kp T.b_p_read_term .nil pass0 (pa_cons (pv 0) (pa_cons pe_int (pa_cons pe_int pa_nil)))) (pg_tup rfl (pgs_cons (pg_name (i := 1) sc_p_parse_term.nd rfl (by first | exact Or.inl rfl | exact Or.inr rfl)) (pgs_cons (pg_name (i := 2) sc_p_parse_term.nd rfl (by first | exact Or.inl rfl | exact Or.inr rfl)) pgs_nil))))
          (pss_cons (ps_if (PW.pt (pw_or (pt_cmpR op_ne (pv 2) (pe_callB call_len (by rfl) T.n_len (by decide +kernel) (pa_cons (pv 0) pa_nil)) (nomark _)) (pw_or1 (pt_not (pt_val (pe_call G_p_is_valid_term (hr.mono (by first | decide | omega)) (by rfl) T.g_p_is_valid_term T.F_p_is_valid_term.kp T.b_p_is_valid_term .nil pass0 (pa_cons (pv 1) pa_nil))))))) (pss_one ps_never) pss_nil)
          (pss_cons (ps_if (pt_cmpR op_ne (pe_call G_p_format_term (hr.mono (by first | decide | omega)) (by rfl) T.g_p_format_term T.F_p_format_term.kp T.b_p_format_term .nil pass0 (pa_cons (pv 1) pa_nil)) (pv 0) (nomark _)) (pss_one ps_never) pss_nil)
          (pss_one (ps_ret (pv 1)))))), ?_⟩
    have hl2 := TL.len_tl z
    unfold parseT at w wx
    refine ⟨_, rfl, z, 0, 1, rfl, by decide, Nat.zero_le _, hz, fun t r hr0 p v n e H1 s1 he hd hp hv => ?_, fun hn => ?_⟩
    rotate_left
    · rw [List.drop_zero] at hn
      rw [hn] at wx
      exact wx rfl
    rw [List.drop_zero] at hr0
    rw [hr0] at w wx
    dsimp only at w wx
    refine ⟨p, _, rfl, hp, rfl, _, _, rfl, _, _, rfl, rfl, ?_⟩
    have re : r.isEmpty = decide (e = z.length) := by
      have := congrArg List.length hd
      rw [List.length_drop, ← hl2] at this
      cases r with
      | nil => exact (decide_eq_true (by have : z.length - e = 0 := this; omega)).symm
      | cons c r => exact (decide_eq_false (by rw [List.length_cons] at this; omega)).symm
    rw [re] at w wx
    refine ⟨_, rfl, .str z, rfl, .str z, z.length, rfl, ⟨sz (by omega), rfl⟩, rfl, _, rfl, ?_⟩
    by_cases c : e = z.length
    · rw [decide_eq_true c, Bool.true_and] at w wx
      refine ifF (by rw [c]; simp) ?_
      refine ⟨v, rfl, v, t, n + 11, rfl, hv.le (by omega), by omega, fun H2 s2 => ?_⟩
      have ok : (isT 10 t && decide (t.size ≤ 40)) = okT t := rfl
      rw [ok]
      refine ⟨_, rfl, ?_⟩
      cases o : okT t with
      | false =>
        rw [o, if_neg Bool.false_ne_true] at wx
        exact ifT rfl (raise_pe T (s1.trans s2) (wx rfl))
      | true =>
        rw [o, if_pos rfl] at w wx
        refine ifF rfl ?_
        have o' := o
        unfold okT at o'
        rw [Bool.and_eq_true, decide_eq_true_eq] at o'
        have h10 : RwAt K H2 10 v t := (hv.same s2).low o'.1
        refine ⟨v, rfl, v, t, rfl, h10, isT.fm o'.1, by omega, fun H3 s3 => ⟨.str z, rfl, rfl, _, rfl, ?_⟩⟩
        by_cases y : t.txt = TL.tl z
        · rw [if_pos y] at w
          refine ifF (by rw [y, SX.S_tl]; simp) ⟨v, rfl, w t rfl v H3 (s1.trans (s2.trans s3)) (h10.same s3)⟩
        · rw [if_neg y] at wx
          have ne : ¬ V.str (SX.S t.txt) = V.str z := fun q => y (congrArg TL.tl (V.str.inj q))
          exact ifT (by simp [ne]) (raise_pe T (s1.trans (s2.trans s3)) (wx rfl))
    · rw [decide_eq_false c, Bool.false_and, if_neg Bool.false_ne_true] at wx
      have ne : ¬ V.int (e : Int) = V.int (z.length : Int) := fun q => c (by have := V.int.inj q; omega)
      exact ifT (by simp [ne]) (ifT rfl (raise_pe T s1 (wx rfl)))
theorem ok_p_parse_term (T : Txt K mg a) : FnOk P w K mg base CX0 41 a.f_p_parse_term a.fd_p_parse_term ["text"] (sp_p_parse_term K) := (okx_p_parse_term T).imp (fun vs H Q E h => by
  obtain ⟨z, t, rfl, hz, e, w⟩ := h
  exact ⟨z, rfl, hz, fun u eu => by rw [e] at eu; cases eu; exact w, fun n => by rw [e] at n; cases n⟩)
end
section
variable {P : Program} {w : World} {K : PySem.W.Frag} {mg : Str → Option Value} {base : Heap} {a : Ad}
def sp_l_source (K : PySem.W.Frag) : Sp := fun vs H Q _ => ∃ (b : Addr) (ns : List Int), vs = [.ref b] ∧ SqL K H b (ns.map V.int) ∧ ns.length ≤ 63 ∧ ∀ H' r, Same H H' → H r = none → Rg H' r → Q (.ref r) H'
theorem cut63 {xs : List V} (h : xs.length ≤ 63) : cutV xs none (some 63) = xs := by
  unfold cutV
  rw [HT.sIx_none, show HT.sIx xs.length xs.length (some 63) = min 63 xs.length from HT.sIx_nat xs.length xs.length 63]
  rw [List.drop_zero, show min 63 xs.length - 0 = xs.length by omega, List.take_length]

theorem ok_l_source (T : Txt K mg a) : FnOk P w K mg base CX0 1 a.f_l_source a.fd_l_source ["_law_script"] (sp_l_source K) := by
  refine T.F_l_source.ok sc_l_source (fun vs H Q E h => ?_) (fun cdv A outer s H vs Q E hr h => ?_)
  · obtain ⟨b, ns, rfl, _⟩ := h
    rfl
  · obtain ⟨b, ns, rfl, hS, hlen, w⟩ := h
    refine ⟨_, (pss_cons (ps_set (i := 1) sc_l_source.nd rfl (by first | exact Or.inl rfl | exact Or.inr rfl) (pe_op op_add pe_int (pe_op op_mul pe_int (pe_callB call_len (by rfl) T.n_len (by decide +kernel) (pa_cons (pe_slice sl_list (pv 0) po_none (po_some pe_int)) pa_nil)))))
          (pss_cons (ps_for PassesOwn.never rfl (pi_list (pe_slice sl_list (pv 0) po_none (po_some pe_int))) (pg_name (i := 2) sc_l_source.nd rfl (by first | exact Or.inl rfl | exact Or.inr rfl)) (pss_one (ps_set (i := 1) sc_l_source.nd rfl (by first | exact Or.inl rfl | exact Or.inr rfl) (pe_op op_mod (pe_op op_add (pe_op op_add (pe_op op_mul (pv 1) pe_int) (pe_op op_mod (pv 2) pe_int)) pe_int) pe_int))))
          (pss_one (ps_ret (pe_lst (pa_cons (pe_callTy call_list_of (by rfl) T.n_list (by decide +kernel) (pa_cons (pe_slice sl_list (pv 0) po_none (po_some pe_int)) pa_nil)) (pa_cons pe_int (pa_cons pe_int (pa_cons (pv 1) pa_nil))))))))), ?_⟩
    have hl : (ns.map V.int).length ≤ 63 := by rw [List.length_map]; exact hlen
    refine ⟨.ref b, rfl, 63, rfl, b, _, rfl, hS, fun p np => ?_⟩
    rw [cut63 hl]
    have s1 : Same H (upd H p (.lst (ns.map V.int))) := Same.new np
    refine ⟨.ref p, ns.length, rfl, .inl ⟨_, SqL.of upd_same, by simp⟩, 67, _, rfl, rfl, .inl ⟨by decide, by decide⟩, 9472, _, rfl, rfl, ?_⟩
    refine ⟨.ref b, rfl, 63, rfl, b, _, rfl, s1.seq hS, fun p2 np2 => ?_⟩
    rw [cut63 hl]
    have s2 : Same H (upd (upd H p (.lst (ns.map V.int))) p2 (.lst (ns.map V.int))) := s1.trans (Same.new np2)
    refine ⟨p2, rfl, ⟨_, SqL.of upd_same⟩, for_list (K := K) (a := p2) (xs := ns.map V.int) (fun i σ H' => ∃ k y, σ = [some (.ref b), some (.int k), y] ∧ 0 ≤ k ∧ k < 2147483563 ∧ H' = upd (upd H p (.lst (ns.map V.int))) p2 (.lst (ns.map V.int)))
      ⟨_, none, rfl, by omega, by omega, rfl⟩ (fun i σ H' _ ⟨_, _, _, _, _, e⟩ => by rw [e]; exact SqL.of upd_same) ?_ ?_⟩
    · rintro i y σ H' hi ⟨k, y', rfl, k0, k1, rfl⟩
      obtain ⟨z, hz, rfl⟩ : ∃ z, ns[i]? = some z ∧ y = V.int z := by
        rw [List.getElem?_map] at hi
        cases e : ns[i]? with
        | none => rw [e] at hi; cases hi
        | some z => rw [e] at hi; exact ⟨z, rfl, (Option.some.inj hi).symm⟩
      refine ⟨.int k, rfl, k, 40014, rfl, rfl, .inl ⟨by omega, by omega⟩, .int z, rfl, z, 2147483563, rfl, rfl, (show (0 : Int) < 2147483563 by decide), _, _, rfl, rfl, _, _, rfl, rfl, _, 2147483563, rfl, rfl, (show (0 : Int) < 2147483563 by decide), ?_⟩
      exact ⟨_, _, rfl, Int.emod_nonneg _ (by decide), Int.emod_lt_of_pos _ (by decide), rfl⟩
    · rintro σ H' ⟨k, y', rfl, k0, k1, rfl⟩
      refine ⟨.ref b, rfl, 63, rfl, b, _, rfl, s2.seq hS, fun p3 np3 => ?_⟩
      rw [cut63 hl]
      refine ⟨p3, _, rfl, .inl (SqL.of upd_same), fun l nl => ?_⟩
      refine ⟨.int k, rfl, sz (by show 4 ≤ 100000; decide), fun r nr => ?_⟩
      have s3 := s2.trans (Same.new (o := .lst (ns.map V.int)) np3)
      have s4 := s3.trans (Same.new (o := .lst (ns.map V.int)) nl)
      have s5 := s4.trans (Same.new (o := .lst [.ref l, .int 0, .int 0, .int k]) nr)
      refine w _ r s5 (s4.free nr) ⟨l, ns, 0, 0, k, upd_same, ?_, by omega, by omega, by omega, k0, k1⟩
      rw [upd_ne (fun z => by rw [z] at nl; rw [← z, upd_same] at nr; cases nr)]
      exact upd_same
end
section
variable {P : Program} {w : World} {K : PySem.W.Frag} {mg : Str → Option Value} {base : Heap} {a : Ad}
def sp_l_draw (_ : PySem.W.Frag) : Sp := fun vs H Q _ => ∃ (r : Addr) (q : Int), vs = [.ref r, .int q] ∧ Rg H r ∧ 0 < q ∧ q < 2 ^ 64 ∧ ∀ v H', 0 ≤ v → v < q → Kp r H H' → Rg H' r → Q (.int v) H'
theorem cell_at {ns : List Int} {i : Int} (h0 : 0 ≤ i) (h1 : i < (ns.length : Int)) : ∃ z, atI (ns.map V.int) i = some (V.int z) := by
  have e : i = ((i.toNat : Nat) : Int) := by omega
  have l : i.toNat < ns.length := by omega
  refine ⟨ns[i.toNat], ?_⟩
  have h : atI (ns.map V.int) ((i.toNat : Nat) : Int) = some (V.int ns[i.toNat]) := atI_nat (by simp [l])
  rw [← e] at h
  exact h
theorem div_ok {q : Int} (h : 0 < q) (h' : q < 2 ^ 64) (i : Int) : CDivW i q := wide_div (b := 64) h (by omega) (by decide) (by decide)

theorem ok_l_draw (T : Txt K mg a) : FnOk P w K mg base CX0 1 a.f_l_draw a.fd_l_draw ["_law_rng", "_law_quantity"] (sp_l_draw K) := by
  refine T.F_l_draw.ok sc_l_draw (fun vs H Q E h => ?_) (fun cdv A outer s H vs Q E hr h => ?_)
  · obtain ⟨r, q, rfl, _⟩ := h
    rfl
  · obtain ⟨r, q, rfl, ⟨c, ns, i, x, k, R⟩, q0, q1, w⟩ := h
    refine ⟨_, (C8.pss_cut (ps_if (PW.pt (pw_and (pt_cmpR op_eq (pe_ix ix_list (pv 0) pe_int (fun _ _ => rfl)) pe_int (nomark _)) (pw_and1 (pt_cmpR op_lt (pe_ix ix_list (pv 0) pe_int (fun _ _ => rfl)) (pe_callB call_len (by rfl) T.n_len (by decide +kernel) (pa_cons (pe_ix ix_list (pv 0) pe_int (fun _ _ => rfl)) pa_nil)) (nomark _))))) (pss_cons (ps_set (i := 2) sc_l_draw.nd rfl (by first | exact Or.inl rfl | exact Or.inr rfl) (pe_ix ix_list (pe_ix ix_list (pv 0) pe_int (fun _ _ => rfl)) (pe_ix ix_list (pv 0) pe_int (fun _ _ => rfl)) (fun _ _ => rfl)))
          (pss_cons (ps_asg (pe_op op_add (pe_ix ix_list (pv 0) pe_int (fun _ _ => rfl)) pe_int) (pg_sub (pv 0) pe_int set_list))
          (pss_one (ps_if (pt_cmpR op_ge (pv 2) (pe_op op_pow pe_int pe_int) (nomark _)) (pss_one (ps_asg (pv 2) (pg_sub (pv 0) pe_int set_list))) (pss_one (ps_asg (pe_op op_mod (pe_op op_add (pe_op op_add (pe_op op_mul (pe_ix ix_list (pv 0) pe_int (fun _ _ => rfl)) pe_int) (pe_op op_mul (pe_op op_mod (pv 2) pe_int) pe_int)) (pe_ix ix_list (pv 0) pe_int (fun _ _ => rfl))) pe_int) (pg_sub (pv 0) pe_int set_list))))))) pss_nil)
          (pss_cons (ps_if (pt_cmpR op_gt (pe_ix ix_list (pv 0) pe_int (fun _ _ => rfl)) pe_int (nomark _)) (pss_cons (ps_set (i := 3) sc_l_draw.nd rfl (by first | exact Or.inl rfl | exact Or.inr rfl) (pe_op op_mod (pe_ix ix_list (pv 0) pe_int (fun _ _ => rfl)) (pv 1)))
          (pss_cons (ps_asg (pe_op op_fdivW (pe_ix ix_list (pv 0) pe_int (fun _ _ => rfl)) (pv 1)) (pg_sub (pv 0) pe_int set_list))
          (pss_one (ps_ret (pv 3))))) pss_nil)
          (pss_cons (ps_set (i := 4) sc_l_draw.nd rfl (by first | exact Or.inl rfl | exact Or.inr rfl) (pe_ix ix_list (pv 0) pe_int (fun _ _ => rfl)))
          (pss_cons (ps_asg (pe_op op_mod (pe_op op_add (pe_op op_add (pe_op op_mul (pv 4) (pv 4)) (pe_op op_mul (pv 4) pe_int)) pe_int) pe_int) (pg_sub (pv 0) pe_int set_list))
          (pss_one (ps_ret (pe_op op_mod (pe_op op_add (pe_op op_fdivW (pe_ix ix_list (pv 0) pe_int (fun _ _ => rfl)) pe_int) (pe_op op_mul (pe_op op_mod (pe_ix ix_list (pv 0) pe_int (fun _ _ => rfl)) pe_int) pe_int)) (pv 1)))))))), ?_⟩
    have hR := R.hr
    have hC := R.hc
    have hk0 := R.k0
    have hk1 := R.k1
    have hi0 := R.i0
    refine ⟨fun σ H1 => ∃ y i1 x1 k1, σ = [some (.ref r), some (.int q), y, none, none] ∧ RgS H1 r c ns i1 x1 k1 ∧ Kp r H H1, ?_, ?_⟩
    · refine ⟨.ref r, rfl, r, _, 2, _, rfl, rfl, SqL.of hR, rfl, rfl, _, rfl, ite2 (fun e => ?_) (fun e => ?_)⟩
      · refine ⟨.ref r, rfl, r, _, 1, _, rfl, rfl, SqL.of hR, rfl, .ref r, rfl, r, _, 0, _, rfl, rfl, SqL.of hR, rfl, .ref c, ns.length, rfl, .inl ⟨_, SqL.of hC, by simp⟩, i, _, rfl, rfl, _, rfl, ite2 (fun e1 => ?_) (fun e1 => ?_)⟩
        · have l1 : i < (ns.length : Int) := of_decide_eq_true e1
          obtain ⟨z, hz⟩ := cell_at hi0 l1
          have hx : x = 0 := V.int.inj (of_decide_eq_true e)
          refine ⟨.ref r, rfl, r, _, 0, _, rfl, rfl, SqL.of hR, rfl, .ref r, rfl, r, _, 1, _, rfl, rfl, SqL.of hR, rfl, c, _, i, .int z, rfl, rfl, SqL.of hC, hz, ?_⟩
          refine ⟨.ref r, rfl, r, _, 1, _, rfl, rfl, SqL.of hR, rfl, i, 1, rfl, rfl, .ref r, rfl, r, _, 1, 1, rfl, rfl, hR, rfl, ?_⟩
          have R1 := R.set (i' := i + 1) (x' := x) (k' := k) (by omega) (by omega) R.x0 R.k0 R.k1
          refine ⟨.int z, rfl, 10, 18, rfl, rfl, ⟨by decide, by decide, by decide⟩, z, _, rfl, rfl, _, rfl, ite2 (fun e2 => ?_) (fun e2 => ?_)⟩
          · have hz2 : (10 : Int) ^ 18 ≤ z := of_decide_eq_true e2
            have R2 := R.set (i' := i + 1) (x' := z) (k' := k) (by omega) (by omega) (by omega) R.k0 R.k1
            refine ⟨.int z, rfl, .ref r, rfl, r, _, 2, 2, rfl, rfl, R1.hr, rfl, ?_⟩
            refine ⟨_, i + 1, z, k, rfl, ?_, ?_⟩
            · rw [upd_upd]; exact R2
            · rw [upd_upd]; exact Kp.at hR
          · refine ⟨.ref r, rfl, r, _, 3, _, rfl, rfl, SqL.of R1.hr, rfl, k, 40692, rfl, rfl, .inl ⟨by omega, by omega⟩, .int z, rfl, z, 2147483563, rfl, rfl, (show (0 : Int) < 2147483563 by decide), _, 71, rfl, rfl, .inr ⟨by decide, by decide⟩, _, _, rfl, rfl,
              .ref r, rfl, r, _, 1, _, rfl, rfl, SqL.of R1.hr, rfl, _, _, rfl, rfl, _, 2147483563, rfl, rfl, (show (0 : Int) < 2147483563 by decide), .ref r, rfl, r, _, 3, 3, rfl, rfl, R1.hr, rfl, ?_⟩
            have R2 := R.set (i' := i + 1) (x' := x) (k' := (k * 40692 + z % 2147483563 * 71 + (i + 1)) % 2147483563) (by omega) (by omega) (by omega) (by omega) (by omega)
            refine ⟨_, i + 1, x, (k * 40692 + z % 2147483563 * 71 + (i + 1)) % 2147483563, rfl, ?_, ?_⟩
            · rw [upd_upd]; exact R2
            · rw [upd_upd]; exact Kp.at hR
        · exact ⟨none, i, x, k, rfl, R, Kp.refl⟩
      · exact iteF ⟨none, i, x, k, rfl, R, Kp.refl⟩
    · rintro σ H1 ⟨y, i1, x1, k1, rfl, R1, kp⟩
      have hR1 := R1.hr
      have hk0 := R1.k0
      have hk1 := R1.k1
      have hx0 := R1.x0
      refine ⟨.ref r, rfl, r, _, 2, _, rfl, rfl, SqL.of hR1, rfl, x1, 0, rfl, rfl, _, rfl, ite2 (fun e => ?_) (fun e => ?_)⟩
      · refine ⟨.ref r, rfl, r, _, 2, _, rfl, rfl, SqL.of hR1, rfl, .int q, rfl, x1, q, rfl, rfl, q0, ?_⟩
        refine ⟨.ref r, rfl, r, _, 2, _, rfl, rfl, SqL.of hR1, rfl, .int q, rfl, x1, q, rfl, rfl, div_ok q0 q1 x1, .ref r, rfl, r, _, 2, 2, rfl, rfl, hR1, rfl, ?_⟩
        refine ⟨_, rfl, w _ _ (Int.emod_nonneg _ (by omega)) (Int.emod_lt_of_pos _ q0) (kp.trans (Kp.at hR1)) ⟨c, ns, i1, x1 / q, k1, R1.set R1.i0 R1.i1 (Int.ediv_nonneg hx0 (by omega)) hk0 hk1⟩⟩
      · refine ⟨.ref r, rfl, r, _, 3, _, rfl, rfl, SqL.of hR1, rfl, ?_⟩
        refine ⟨.int k1, rfl, .int k1, rfl, k1, k1, rfl, rfl, .inl ⟨by omega, by omega⟩, .int k1, rfl, k1, 39373, rfl, rfl, .inl ⟨by omega, by omega⟩, _, _, rfl, rfl, _, _, rfl, rfl, _, 2147483563, rfl, rfl, (show (0 : Int) < 2147483563 by decide), .ref r, rfl, r, _, 3, 3, rfl, rfl, hR1, rfl, ?_⟩
        have m0 : 0 ≤ (k1 * k1 + k1 * 39373 + 80021) % 2147483563 := Int.emod_nonneg _ (by decide)
        have m1 : (k1 * k1 + k1 * 39373 + 80021) % 2147483563 < 2147483563 := Int.emod_lt_of_pos _ (by decide)
        have R2 := R1.set (k' := (k1 * k1 + k1 * 39373 + 80021) % 2147483563) R1.i0 R1.i1 R1.x0 m0 m1
        refine ⟨.ref r, rfl, r, _, 3, _, rfl, rfl, SqL.of R2.hr, rfl, _, 61, rfl, rfl, ⟨by decide, by decide⟩, .ref r, rfl, r, _, 3, _, rfl, rfl, SqL.of R2.hr, rfl, _, 8123, rfl, rfl, (show (0 : Int) < 8123 by decide), _, 223, rfl, rfl, .inr ⟨by decide, by decide⟩, _, _, rfl, rfl, .int q, rfl, _, q, rfl, rfl, q0, ?_⟩
        exact w _ _ (Int.emod_nonneg _ (by omega)) (Int.emod_lt_of_pos _ q0) (kp.trans (Kp.at hR1)) ⟨c, ns, i1, x1, _, R2⟩
end
section
variable {P : Program} {w : World} {K : PySem.W.Frag} {mg : Str → Option Value} {base : Heap} {a : Ad}
/-- what may be chosen from: a list, a tuple, a text -/
def Pick (K : PySem.W.Frag) (H : Hp) (r : Addr) (v : V) (items : List V) : Prop := (∃ p, v = .ref p ∧ p ≠ r ∧ (SqL K H p items ∨ SqT K H p items)) ∨ ∃ z : Str, v = .str z ∧ items = z.cps.toList.map fun c => V.str ⟨#[c]⟩
def sp_l_choice (K : PySem.W.Frag) : Sp := fun vs H Q _ => ∃ (r : Addr) (v : V) (items : List V), vs = [.ref r, v] ∧ Rg H r ∧ Pick K H r v items ∧ 0 < items.length ∧ items.length ≤ 100000 ∧ ∀ x ∈ items, ∀ H', Kp r H H' → Rg H' r → Q x H'
theorem at_int {α : Type} {xs : List α} {i : Int} (h0 : 0 ≤ i) (h1 : i < (xs.length : Int)) : ∃ x, atI xs i = some x ∧ x ∈ xs := by
  have e : i = ((i.toNat : Nat) : Int) := by omega
  have l : i.toNat < xs.length := by omega
  refine ⟨xs[i.toNat], ?_, List.getElem_mem l⟩
  have h : atI xs ((i.toNat : Nat) : Int) = some xs[i.toNat] := atI_nat (by simp [l])
  rw [← e] at h
  exact h

theorem ok_l_choice (T : Txt K mg a) : FnOk P w K mg base CX0 2 a.f_l_choice a.fd_l_choice ["_law_rng", "_law_some"] (sp_l_choice K) := by
  have G_l_draw := ok_l_draw (P := P) (w := w) (base := base) T
  refine T.F_l_choice.ok sc_l_choice (fun vs H Q E h => ?_) (fun cdv A outer s H vs Q E hr h => ?_)
  · obtain ⟨r, v, items, rfl, _⟩ := h
    rfl
  · obtain ⟨r, v, items, rfl, R, pk, l0, l1, w⟩ := h
    refine ⟨_, (pss_one (ps_ret (pe_ix ix_seq (pv 1) (pe_call G_l_draw (hr.mono (by first | decide | omega)) (by rfl) T.g_l_draw T.F_l_draw.kp T.b_l_draw .nil pass0 (pa_cons (pv 0) (pa_cons (pe_callB call_len (by rfl) T.n_len (by decide +kernel) (pa_cons (pv 1) pa_nil)) pa_nil))) (fun _ _ => rfl)))), ?_⟩
    have n0 : (0 : Int) < (items.length : Int) := by omega
    have n1 : (items.length : Int) < 2 ^ 64 := by omega
    rcases pk with ⟨p, rfl, np, hp⟩ | ⟨z, rfl, hz⟩
    · refine ⟨.ref p, rfl, .ref r, rfl, .ref p, rfl, .ref p, items.length, rfl, ?_, r, _, rfl, R, n0, n1, fun j H' j0 j1 kp R' => ?_⟩
      · rcases hp with hp | hp
        · exact .inl ⟨_, hp, rfl⟩
        · exact .inr ⟨_, hp, rfl⟩
      · obtain ⟨x, hx, hm⟩ := at_int (xs := items) j0 j1
        rcases hp with hp | hp
        · exact .inl ⟨p, items, j, x, rfl, rfl, kp.L np hp, hx, w x hm H' kp R'⟩
        · exact .inr (.inl ⟨p, items, j, x, rfl, rfl, kp.T np hp, hx, w x hm H' kp R'⟩)
    · have hl : z.cps.toList.length = items.length := by rw [hz]; simp
      have hl2 : z.length = items.length := by rw [← hl]; simp [Str.length]
      refine ⟨.str z, rfl, .ref r, rfl, .str z, rfl, .str z, items.length, rfl, ⟨by rw [hl2]; exact sz l1, hl2.symm⟩, r, _, rfl, R, n0, n1, fun j H' j0 j1 kp R' => ?_⟩
      obtain ⟨c, hx, hm⟩ := at_int (xs := z.cps.toList) j0 (by rw [hl]; exact j1)
      exact .inr (.inr ⟨z, j, c, rfl, rfl, by rw [hl2]; exact sz l1, hx, w _ (by rw [hz]; exact List.mem_map.mpr ⟨c, hm, rfl⟩) H' kp R'⟩)
end
section
variable {P : Program} {w : World} {K : PySem.W.Frag} {mg : Str → Option Value} {base : Heap} {a : Ad}
def sp_l_shuffled (K : PySem.W.Frag) : Sp := fun vs H Q _ => ∃ (r p : Addr) (xs : List V), vs = [.ref r, .ref p] ∧ Rg H r ∧ p ≠ r ∧ SqL K H p xs ∧ xs.length ≤ 60 ∧ ∀ l H' ys, Kp r H H' → Rg H' r → H' l = some (.lst ys) → l ≠ r → ys.Perm xs → Q (.ref l) H'

theorem ok_l_shuffled (T : Txt K mg a) : FnOk P w K mg base CX0 2 a.f_l_shuffled a.fd_l_shuffled ["_law_rng", "_law_some"] (sp_l_shuffled K) := by
  have G_l_draw := ok_l_draw (P := P) (w := w) (base := base) T
  refine T.F_l_shuffled.ok sc_l_shuffled (fun vs H Q E h => ?_) (fun cdv A outer s H vs Q E hr h => ?_)
  · obtain ⟨r, p, xs, rfl, _⟩ := h
    rfl
  · obtain ⟨r, p, xs, rfl, R, pr, hS, hl, w⟩ := h
    refine ⟨_, (pss_cons (ps_set (i := 2) sc_l_shuffled.nd rfl (by first | exact Or.inl rfl | exact Or.inr rfl) (pe_lst pa_nil))
          (pss_cons (ps_for PassesOwn.never rfl (pi_list (pv 1)) (pg_name (i := 3) sc_l_shuffled.nd rfl (by first | exact Or.inl rfl | exact Or.inr rfl)) (pss_one (ps_expr (pe_bm PySem.F.plainAttrs_list PySem.F.slot_list_insert PySem.F.type_list_insert mt_insert (pv 2) (pa_cons (pe_call G_l_draw (hr.mono (by first | decide | omega)) (by rfl) T.g_l_draw T.F_l_draw.kp T.b_l_draw .nil pass0 (pa_cons (pv 0) (pa_cons (pe_op op_add (pe_callB call_len (by rfl) T.n_len (by decide +kernel) (pa_cons (pv 2) pa_nil)) pe_int) pa_nil))) (pa_cons (pv 3) pa_nil))))))
          (pss_one (ps_ret (pv 2))))), ?_⟩
    refine ⟨sz (by show 0 ≤ 100000; decide), fun l nl => ?_⟩
    have s0 := Same.new (o := .lst []) nl
    have lr : l ≠ r := R.ne nl
    refine ⟨.ref p, rfl, p, rfl, ⟨_, s0.seq hS⟩, for_list (K := K) (a := p) (xs := xs) (fun i σ H' => ∃ y, σ = [some (.ref r), some (.ref p), some (.ref l), y] ∧ Kp r H H' ∧ Rg H' r ∧ ∃ ys, H' l = some (.lst ys) ∧ ys.Perm (xs.take i)) ⟨none, rfl, Kp.of s0, R.same s0, [], upd_same, .nil⟩ (fun i σ H' _ ⟨_, _, k, _⟩ => k.L pr hS) ?_ ?_⟩
    · rintro i x σ H1 hx ⟨y, rfl, k1, R1, ys, hys, pm⟩
      have il : i < xs.length := (List.getElem?_eq_some_iff.mp hx).1
      have yl : ys.length = i := by rw [pm.length_eq, List.length_take]; omega
      refine ⟨.ref l, rfl, .inl ⟨rfl, _, SqL.of hys⟩, .ref r, rfl, .ref l, rfl, .ref l, ys.length, rfl, .inl ⟨_, SqL.of hys, rfl⟩, _, 1, rfl, rfl, r, _, rfl, R1, by omega, by omega, fun j H2 j0 j1 k2 R2 => ?_⟩
      have h2 := k2.1 _ _ lr hys
      refine ⟨x, rfl, l, ys, j, x, rfl, rfl, h2, by rw [yl]; exact szl (by omega), j0, by omega, ?_⟩
      have kk := k1.trans k2
      refine ⟨_, rfl, kk.put (H := H) nl lr, R.put nl kk R2, _, upd_same, ?_⟩
      rw [List.take_add_one, hx]
      have e1 : (ys.take j.toNat ++ [x] ++ ys.drop j.toNat).Perm (x :: ys) := by
        have e : (ys.take j.toNat ++ ([x] ++ ys.drop j.toNat)).Perm ([x] ++ (ys.take j.toNat ++ ys.drop j.toNat)) := by
          rw [← List.append_assoc, ← List.append_assoc]
          exact List.Perm.append_right _ List.perm_append_comm
        rw [List.take_append_drop] at e
        rw [List.append_assoc]
        exact e
      exact e1.trans ((List.Perm.cons x pm).trans (by
        have := List.perm_append_comm (l₁ := [x]) (l₂ := xs.take i)
        exact this))
    · rintro σ H1 ⟨y, rfl, k1, R1, ys, hys, pm⟩
      rw [List.take_length] at pm
      exact ⟨.ref l, rfl, w l H1 ys k1 R1 hys lr pm⟩
end
section
variable {P : Program} {w : World} {K : PySem.W.Frag} {mg : Str → Option Value} {base : Heap} {a : Ad}
/-- equal data of depth below n: True -/
def spEq (K : PySem.W.Frag) : Nat → Sp
  | 0 => fun _ _ _ _ => False
  | n + 1 => fun vs H Q _ => ∃ x y, vs = [x, y] ∧ Eqd K H n x y ∧ ∀ H', Same H H' → Q (.bl true) H'
def sp_l_equal (K : PySem.W.Frag) : Sp := spEq K 31

theorem ok_l_equal_n (T : Txt K mg a) : ∀ n, FnOk P w K mg base CX0 n a.f_l_equal a.fd_l_equal ["_law_result", "_law_expected"] (spEq K n)
  | 0 => fn_false
  | n + 1 => by
    have G_l_equal := ok_l_equal_n T n
    refine T.F_l_equal.ok sc_l_equal (fun vs H Q E h => ?_) (fun cdv A outer s H vs Q E hr h => ?_)
    · obtain ⟨x, y, rfl, _⟩ := h
      rfl
    obtain ⟨x, y, rfl, hE, w⟩ := h
    refine ⟨_, (pss_cons (ps_if (pt_cmpR op_isN (pv 1) pe_non (nomark _)) (pss_one (ps_ret (pe_cmpR op_isN (pv 0) pe_non (nomark _)))) pss_nil)
      (pss_cons (ps_if (PW.pt (pw_or (pt_val (pe_callB call_isi (by rfl) T.n_isinstance (by decide +kernel) (pa_cons (pv 1) (pa_cons (pe_bltn (v := .ty "list") (by rfl) T.n_list (by decide +kernel) rfl) pa_nil)))) (pw_or1 (pt_val (pe_callB call_isi (by rfl) T.n_isinstance (by decide +kernel) (pa_cons (pv 1) (pa_cons (pe_bltn (v := .ty "tuple") (by rfl) T.n_tuple (by decide +kernel) rfl) pa_nil))))))) (pss_cons (ps_if (PW.pt (pw_or (pt_cmpR op_ne (pe_callB call_isi (by rfl) T.n_isinstance (by decide +kernel) (pa_cons (pv 0) (pa_cons (pe_bltn (v := .ty "list") (by rfl) T.n_list (by decide +kernel) rfl) pa_nil))) (pe_callB call_isi (by rfl) T.n_isinstance (by decide +kernel) (pa_cons (pv 1) (pa_cons (pe_bltn (v := .ty "list") (by rfl) T.n_list (by decide +kernel) rfl) pa_nil))) (nomark _)) (pw_or1 (pt_cmpR op_ne (pe_callB call_isi (by rfl) T.n_isinstance (by decide +kernel) (pa_cons (pv 0) (pa_cons (pe_bltn (v := .ty "tuple") (by rfl) T.n_tuple (by decide +kernel) rfl) pa_nil))) (pe_callB call_isi (by rfl) T.n_isinstance (by decide +kernel) (pa_cons (pv 1) (pa_cons (pe_bltn (v := .ty "tuple") (by rfl) T.n_tuple (by decide +kernel) rfl) pa_nil))) (nomark _))))) (pss_one (ps_ret pe_bl)) pss_nil)
      (pss_one (ps_ret (pe_and (pe_cmpR op_eq (pe_callB call_len (by rfl) T.n_len (by decide +kernel) (pa_cons (pv 0) pa_nil)) (pe_callB call_len (by rfl) T.n_len (by decide +kernel) (pa_cons (pv 1) pa_nil)) (nomark _)) (pe_one (pe_callB (cr_all rfl) (by rfl) T.n_all (by decide +kernel) (pa_cons (pe_lc (own := [("_law_one", 2), ("_law_other", 3)]) (g := gTup K 2 (gCons (gName 2) (gCons (gName 3) gNil))) rfl sc_l_equal.nd (RZ.pi_zipA (by rfl) T.n_zip (pa_cons (pv 0) (pa_cons (pv 1) pa_nil))) (blkOk_by (own := [("_law_one", 2), ("_law_other", 3)]) (N := ["_law_result", "_law_expected", "_law_one", "_law_other"]) (sc := defScope s_l_equal) (by decide +kernel)) (fun _ _ _ _ _ => (pg_tup rfl (pgs_cons (pg_name (i := 2) sc_l_equal.nd rfl (Or.inl rfl)) (pgs_cons (pg_name (i := 3) sc_l_equal.nd rfl (Or.inl rfl)) pgs_nil)))) (fun _ _ _ _ _ => pts_nil) (fun _ _ _ _ _ => (pe_call G_l_equal (hr.mono (by first | decide | omega)) (by rfl) T.g_l_equal T.F_l_equal.kp T.b_l_equal .nil pass0 (pa_cons (pv 2) (pa_cons (pv 3) pa_nil))))) pa_nil))))))) pss_nil)
      (pss_cons (ps_if (PW.pt (pw_or (pt_cmpR op_ne (pe_callB call_isi (by rfl) T.n_isinstance (by decide +kernel) (pa_cons (pv 1) (pa_cons (pe_bltn (v := .ty "bool") (by rfl) T.n_bool (by decide +kernel) rfl) pa_nil))) (pe_callB call_isi (by rfl) T.n_isinstance (by decide +kernel) (pa_cons (pv 0) (pa_cons (pe_bltn (v := .ty "bool") (by rfl) T.n_bool (by decide +kernel) rfl) pa_nil))) (nomark _)) (pw_or1 (pt_cmpR op_ne (pe_callB call_isi (by rfl) T.n_isinstance (by decide +kernel) (pa_cons (pv 1) (pa_cons (pe_bltn (v := .ty "int") (by rfl) T.n_int (by decide +kernel) rfl) pa_nil))) (pe_callB call_isi (by rfl) T.n_isinstance (by decide +kernel) (pa_cons (pv 0) (pa_cons (pe_bltn (v := .ty "int") (by rfl) T.n_int (by decide +kernel) rfl) pa_nil))) (nomark _))))) (pss_one (ps_ret pe_bl)) pss_nil)
      (pss_one (ps_ret (pe_and (pe_cmpR op_eq (pe_callB call_isi (by rfl) T.n_isinstance (by decide +kernel) (pa_cons (pv 0) (pa_cons (pe_bltn (v := .ty "str") (by rfl) T.n_str (by decide +kernel) rfl) pa_nil))) (pe_callB call_isi (by rfl) T.n_isinstance (by decide +kernel) (pa_cons (pv 1) (pa_cons (pe_bltn (v := .ty "str") (by rfl) T.n_str (by decide +kernel) rfl) pa_nil))) (nomark _)) (pe_one (pe_cmpR op_eq (pv 0) (pv 1) (nomark _))))))))), ?_⟩
    by_cases hq : x = y ∧ atom x = true
    · obtain ⟨rfl, hat⟩ := hq
      by_cases hn : x = .non
      · subst hn
        exact ⟨.non, rfl, rfl, _, rfl, ifT (decide_eq_true rfl) ⟨.non, rfl, rfl, by rw [decide_eq_true rfl]; exact w H (Same.refl H)⟩⟩
      · obtain ⟨t, b1, b2, b3, ty, hl, ht, bb, bi, bs, sc⟩ : ∃ (t : String) (b1 b2 b3 : Bool), TyX K H x (.type t) ∧ kitB t "list" = some false ∧ kitB t "tuple" = some false ∧ kitB t "bool" = some b1 ∧ kitB t "int" = some b2 ∧ kitB t "str" = some b3 ∧ scal x x = true := by
          cases x with
          | non => exact absurd rfl hn
          | bl b => exact ⟨"bool", true, true, false, .base (.bl b), by decide +kernel, by decide +kernel, by decide +kernel, by decide +kernel, by decide +kernel, rfl⟩
          | int i => exact ⟨"int", false, true, false, .base (.int i), by decide +kernel, by decide +kernel, by decide +kernel, by decide +kernel, by decide +kernel, rfl⟩
          | str z => exact ⟨"str", false, false, true, .base (.str z), by decide +kernel, by decide +kernel, by decide +kernel, by decide +kernel, by decide +kernel, rfl⟩
          | _ => cases hat
        refine ⟨x, rfl, rfl, _, rfl, ifF (decide_eq_false hn) ?_⟩
        refine ⟨x, rfl, _, _, _, _, _, rfl, .ty _, ty, kit_ty hl, false, rfl, iteF ⟨x, rfl, _, _, _, _, _, rfl, .ty _, ty, kit_ty ht, false, rfl, iteF ?_⟩⟩
        refine ⟨x, rfl, _, _, _, _, _, rfl, .ty _, ty, kit_ty bb, x, rfl, _, _, _, _, _, rfl, .ty _, ty, kit_ty bb, rfl, _, rfl, iteNS rfl ⟨x, rfl, _, _, _, _, _, rfl, .ty _, ty, kit_ty bi, x, rfl, _, _, _, _, _, rfl, .ty _, ty, kit_ty bi, rfl, _, rfl, iteNS rfl ?_⟩⟩
        refine ⟨x, rfl, _, _, _, _, _, rfl, .ty _, ty, kit_ty bs, x, rfl, _, _, _, _, _, rfl, .ty _, ty, kit_ty bs, rfl, _, rfl, ifT (decide_eq_true rfl) ⟨x, rfl, x, rfl, sc, ?_⟩⟩
        rw [decide_eq_true rfl]
        exact w H (Same.refl H)
    cases n with
    | zero => exact absurd hE hq
    | succ n =>
      rcases hE with hE | ⟨p, q, xs, ys, rfl, rfl, hS, hl, hl2, hk⟩
      · exact absurd hE hq
      have nn : ∀ q : Addr, decide (V.ref q = V.non) = false := fun q => decide_eq_false (fun z => nomatch z)
      refine ⟨.ref q, rfl, rfl, _, rfl, ifF (nn q) ?_⟩
      -- one turn of the comprehension, for lists and for tuples alike
      have turn : ∀ (D : Addr) (H1 : Hp) (i : Nat) (u v : V) (N : Hp → Prop), H D = none → Same H H1 → H1 D = some (.lst ((List.replicate i true).map V.bl)) → i < xs.length → xs[i]? = some u → ys[i]? = some v →
          (∀ H2, Same H H2 → H2 D = some (.lst ((List.replicate (i + 1) true).map V.bl)) → N H2) → spEq K (n + 1) [u, v] H1 (fun y H4 => ∃ acc, H4 D = some (.lst acc) ∧ acc.length < sizeLine ∧ N (upd H4 D (.lst (acc ++ [y])))) E0 := by
        intro D H1 i u v N nD s1 hD hi hu hv hN
        refine ⟨u, v, rfl, (hk i u v hu hv).same s1, fun H4 s4 => ⟨_, s4 _ _ hD, by rw [List.length_map, List.length_replicate]; exact szl (by omega), hN _ (fun b o e => ?_) ?_⟩⟩
        · rw [upd_ne (ne_of_none e nD)]
          exact s4 _ _ (s1 _ _ e)
        · rw [upd_same, List.replicate_succ', List.map_append]
          rfl
      have fin : ∀ (D : Addr) (H1 : Hp), Same H H1 → H1 D = some (.lst ((List.replicate xs.length true).map V.bl)) → rAll K [V.ref D] H1 Q := fun D H1 s1 hD =>
        ⟨D, List.replicate xs.length true, rfl, SqL.of hD, by
          rw [show (List.replicate xs.length true).all id = true by simp]
          exact w H1 s1⟩
      rcases hS with ⟨ha, hb⟩ | ⟨ha, hb⟩
      · refine ⟨.ref q, rfl, _, _, _, _, true, rfl, .ty _, tyL hb, kit_ty (by decide +kernel), true, rfl, iteT (iteT ?_)⟩
        refine ⟨.ref p, rfl, _, _, _, _, true, rfl, .ty _, tyL ha, kit_ty (by decide +kernel), .ref q, rfl, _, _, _, _, true, rfl, .ty _, tyL hb, kit_ty (by decide +kernel), rfl, _, rfl, iteNS rfl ?_⟩
        refine ⟨.ref p, rfl, _, _, _, _, false, rfl, .ty _, tyL ha, kit_ty (by decide +kernel), .ref q, rfl, _, _, _, _, false, rfl, .ty _, tyL hb, kit_ty (by decide +kernel), rfl, _, rfl, iteNS rfl ?_⟩
        refine ⟨.ref p, rfl, .ref p, xs.length, rfl, .inl ⟨_, ha, rfl⟩, .ref q, rfl, .ref q, ys.length, rfl, .inl ⟨_, hb, rfl⟩, rfl, _, rfl, ifT (decide_eq_true (by rw [hl])) ?_⟩
        refine ⟨.ref p, rfl, .ref q, rfl, p, q, xs, ys, rfl, .inl ⟨ha, hb, fun D nD => ?_⟩⟩
        refine ⟨fun i m H1 => i + m = xs.length ∧ Same H H1 ∧ H1 D = some (.lst ((List.replicate i true).map V.bl)), ⟨xs.length, by omega, Same.new nD, upd_same⟩, fun i m H1 hW => ?_⟩
        obtain ⟨em, s1, hD⟩ := hW
        by_cases hi : i < xs.length
        · refine .inr ⟨⟨xs, ys, xs[i], ys[i]'(by omega), s1.seq ha, s1.seq hb, List.getElem?_eq_getElem hi, List.getElem?_eq_getElem (by omega)⟩, fun H2 => Same H H2 ∧ H2 D = some (.lst ((List.replicate (i + 1) true).map V.bl)), fun H2 hN => ⟨m - 1, by omega, by omega, hN.1, hN.2⟩, fun v H2 hy => ?_⟩
          obtain ⟨tt, u1, u2, rfl, nT, rfl, f1, f2⟩ := hy
          refine ⟨tt, [u1, u2], rfl, SqT.of upd_same, rfl, u1, [u2], rfl, u2, [], rfl, rfl, rfl, ?_⟩
          refine tYes_if ?_
          refine ⟨u1, rfl, u2, rfl, turn D (upd H1 tt (.tup [u1, u2])) i u1 u2 (fun H2 => Same H H2 ∧ H2 D = some (.lst ((List.replicate (i + 1) true).map V.bl))) nD (s1.trans (Same.new nT)) ?_ hi (f1 _ (s1.seq ha)) (f2 _ (s1.seq hb)) fun H2 a b => ⟨a, b⟩⟩
          rw [upd_ne (ne_of_none hD nT)]
          exact hD
        · have ei : i = xs.length := by omega
          subst ei
          exact .inl ⟨⟨xs, ys, s1.seq ha, s1.seq hb, .inl (Nat.le_refl _)⟩, fin D H1 s1 hD⟩
      · refine ⟨.ref q, rfl, _, _, _, _, false, rfl, .ty _, tyT hb, kit_ty (by decide +kernel), false, rfl, iteF ⟨.ref q, rfl, _, _, _, _, true, rfl, .ty _, tyT hb, kit_ty (by decide +kernel), true, rfl, iteT ?_⟩⟩
        refine ⟨.ref p, rfl, _, _, _, _, false, rfl, .ty _, tyT ha, kit_ty (by decide +kernel), .ref q, rfl, _, _, _, _, false, rfl, .ty _, tyT hb, kit_ty (by decide +kernel), rfl, _, rfl, iteNS rfl ?_⟩
        refine ⟨.ref p, rfl, _, _, _, _, true, rfl, .ty _, tyT ha, kit_ty (by decide +kernel), .ref q, rfl, _, _, _, _, true, rfl, .ty _, tyT hb, kit_ty (by decide +kernel), rfl, _, rfl, iteNS rfl ?_⟩
        refine ⟨.ref p, rfl, .ref p, xs.length, rfl, .inr ⟨_, ha, rfl⟩, .ref q, rfl, .ref q, ys.length, rfl, .inr ⟨_, hb, rfl⟩, rfl, _, rfl, ifT (decide_eq_true (by rw [hl])) ?_⟩
        refine ⟨.ref p, rfl, .ref q, rfl, p, q, xs, ys, rfl, .inr ⟨ha, hb, fun D nD => ?_⟩⟩
        refine ⟨fun i m H1 => i + m = xs.length ∧ Same H H1 ∧ H1 D = some (.lst ((List.replicate i true).map V.bl)), ⟨xs.length, by omega, Same.new nD, upd_same⟩, fun i m H1 hW => ?_⟩
        obtain ⟨em, s1, hD⟩ := hW
        by_cases hi : i < xs.length
        · refine .inr ⟨⟨xs, ys, xs[i], ys[i]'(by omega), Same.T s1 ha, Same.T s1 hb, List.getElem?_eq_getElem hi, List.getElem?_eq_getElem (by omega)⟩, fun H2 => Same H H2 ∧ H2 D = some (.lst ((List.replicate (i + 1) true).map V.bl)), fun H2 hN => ⟨m - 1, by omega, by omega, hN.1, hN.2⟩, fun v H2 hy => ?_⟩
          obtain ⟨tt, u1, u2, rfl, nT, rfl, f1, f2⟩ := hy
          refine ⟨tt, [u1, u2], rfl, SqT.of upd_same, rfl, u1, [u2], rfl, u2, [], rfl, rfl, rfl, ?_⟩
          refine tYes_if ?_
          refine ⟨u1, rfl, u2, rfl, turn D (upd H1 tt (.tup [u1, u2])) i u1 u2 (fun H2 => Same H H2 ∧ H2 D = some (.lst ((List.replicate (i + 1) true).map V.bl))) nD (s1.trans (Same.new nT)) ?_ hi (f1 _ (Same.T s1 ha)) (f2 _ (Same.T s1 hb)) fun H2 a b => ⟨a, b⟩⟩
          rw [upd_ne (ne_of_none hD nT)]
          exact hD
        · have ei : i = xs.length := by omega
          subst ei
          exact .inl ⟨⟨xs, ys, Same.T s1 ha, Same.T s1 hb, .inl (Nat.le_refl _)⟩, fin D H1 s1 hD⟩
theorem ok_l_equal (T : Txt K mg a) : FnOk P w K mg base CX0 31 a.f_l_equal a.fd_l_equal ["_law_result", "_law_expected"] (sp_l_equal K) := ok_l_equal_n T 31
end
section
variable {P : Program} {w : World} {K : PySem.W.Frag} {mg : Str → Option Value} {base : Heap} {a : Ad}
def sp_l_reduce (_ : PySem.W.Frag) : Sp := fun vs H Q _ => ∃ (n d : Int), vs = [.int n, .int d] ∧ d ≠ 0 ∧ d.natAbs < 2 ^ 8000 ∧ ∀ p, H p = none → Q (.ref p) (upd H p (.tup [.int (red n d).1, .int (red n d).2]))

theorem ok_l_reduce (T : Txt K mg a) : FnOk P w K mg base CX0 1 a.f_l_reduce a.fd_l_reduce ["_law_num", "_law_den"] (sp_l_reduce K) := by
  refine T.F_l_reduce.ok sc_l_reduce (fun vs H Q E h => ?_) (fun cdv A outer s H vs Q E hr h => ?_)
  · obtain ⟨n, d, rfl, _⟩ := h
    rfl
  · obtain ⟨n, d, rfl, hd, dB, w⟩ := h
    refine ⟨_, (pss_cons (ps_par (i := 2) (j := 3) (by rfl) sc_l_reduce.nd rfl rfl (by decide) rfl rfl (pa_cons (pe_callB call_abs (by rfl) T.n_abs (by decide +kernel) (pa_cons (pv 0) pa_nil)) (pa_cons (pe_callB call_abs (by rfl) T.n_abs (by decide +kernel) (pa_cons (pv 1) pa_nil)) pa_nil)) (by rfl))
          (pss_cons (ps_while PassesOwn.never (pt_cmpR op_ne (pv 3) pe_int (nomark _)) (pss_one (ps_par (i := 2) (j := 3) (by rfl) sc_l_reduce.nd rfl rfl (by decide) rfl rfl (pa_cons (pv 3) (pa_cons (pe_op op_mod (pv 2) (pv 3)) pa_nil)) (by rfl))))
          (pss_cons (ps_set (i := 4) sc_l_reduce.nd rfl (by first | exact Or.inl rfl | exact Or.inr rfl) (pe_ifExp (pt_cmpR op_gt (pv 1) pe_int (nomark _)) pe_int (pe_un un_neg pe_int)))
          (pss_one (ps_ret (pe_tup (pa_cons (pe_op op_fdivW (pe_op op_mul (pv 4) (pv 0)) (pv 2)) (pa_cons (pe_op op_fdivW (pe_op op_mul (pv 4) (pv 1)) (pv 2)) pa_nil)))))))), ?_⟩
    refine ⟨.int n, rfl, n, rfl, .int d, rfl, d, rfl, _, _, rfl, ?_⟩
    refine ⟨fun m σ H' => ∃ x y : Int, σ = [some (.int n), some (.int d), some (.int x), some (.int y), none] ∧ 0 ≤ x ∧ 0 ≤ y ∧ Int.gcd x y = Int.gcd n d ∧ m = y.toNat ∧ H' = H, ⟨_, _, _, rfl, ?_, ?_, ?_, rfl, rfl⟩, ?_⟩
    · split <;> omega
    · split <;> omega
    · rw [Int.gcd_eq_natAbs_gcd_natAbs, Int.gcd_eq_natAbs_gcd_natAbs]
      congr 1
      · split <;> omega
      · split <;> omega
    rintro m σ H' ⟨x, y, rfl, x0, y0, hg, rfl, hH⟩
    obtain rfl : H = H' := hH.symm
    refine ⟨.int y, rfl, rfl, _, rfl, ite2 (fun e => ?_) (fun e => ?_)⟩
    · have y1 : y ≠ 0 := fun z => by subst z; simp at e
      refine ⟨fun σ' H' => σ' = [some (.int n), some (.int d), some (.int y), some (.int (x % y)), none] ∧ H' = H, ?_, ?_⟩
      · rintro σ' H' ⟨rfl, rfl⟩
        have h1 : 0 ≤ x % y := Int.emod_nonneg _ y1
        have h2 : x % y < y := Int.emod_lt_of_pos _ (by omega)
        exact ⟨(x % y).toNat, by omega, y, x % y, rfl, y0, h1, by rw [gcd_step x0 y0]; exact hg, rfl, rfl⟩
      · exact ⟨.int y, rfl, .int x, rfl, .int y, rfl, x, y, rfl, rfl, (show (0 : Int) < y by omega), _, _, rfl, rfl, rfl⟩
    · have y1 : y = 0 := by
        by_cases z : y = 0
        · exact z
        · exfalso; apply e; simp [z]
      subst y1
      have hx : x = (Int.gcd n d : Int) := by
        rw [← hg, Int.gcd_zero_right]
        omega
      have hp : 0 < x := by rw [hx]; exact gcd_posI hd
      have hB : x.natAbs < 2 ^ 8000 := by
        refine Nat.lt_of_le_of_lt ?_ dB
        have : Int.gcd n d ∣ d.natAbs := Nat.gcd_dvd_right _ _
        have := Nat.le_of_dvd (by omega) this
        omega
      have hdiv : ∀ i, CDivW i x := fun i => wide_div (b := 8000) hp hB (by decide) (by decide)
      refine ⟨.int d, rfl, d, 0, rfl, rfl, _, rfl, ?_⟩
      have fin : ∀ s : Int, s = 1 ∨ s = -1 → s = (if d > 0 then 1 else -1) → (tRet (tTup (tCons (tOp (rI CDivW fun i j => .int (i / j)) (tOp (rI CMul fun i j => .int (i * j)) (tVar 4) (tVar 0)) (tVar 2)) (tCons (tOp (rI CDivW fun i j => .int (i / j)) (tOp (rI CMul fun i j => .int (i * j)) (tVar 4) (tVar 1)) (tVar 2)) tNil)))) { nx := fun _ H' => Q .non H', rt := Q } [some (.int n), some (.int d), some (.int x), some (.int 0), some (.int s)] H := by
        intro s hs es
        refine ⟨.int s, rfl, .int n, rfl, s, n, rfl, rfl, .inl ⟨by omega, by omega⟩, .int x, rfl, _, x, rfl, rfl, hdiv _, .int s, rfl, .int d, rfl, s, d, rfl, rfl, .inl ⟨by omega, by omega⟩, .int x, rfl, _, x, rfl, rfl, hdiv _, sz (by show 2 ≤ 100000; decide), fun p np => ?_⟩
        have z := w p np
        unfold red at z
        rw [← hx, ← es] at z
        exact z
      refine ite2 (fun e2 => ?_) (fun e2 => ?_)
      · exact fin 1 (.inl rfl) (by rw [if_pos (show d > 0 from of_decide_eq_true e2)])
      · refine ⟨1, rfl, ?_⟩
        exact fin (-1) (.inr rfl) (by rw [if_neg (show ¬ d > 0 from fun z => e2 (decide_eq_true z))])
end
section
variable {P : Program} {w : World} {K : PySem.W.Frag} {mg : Str → Option Value} {base : Heap} {a : Ad}
def sp_l_add (K : PySem.W.Frag) : Sp := spAdd K

theorem ok_l_add (T : Txt K mg a) : FnOk P w K mg base CX0 2 a.f_l_add a.fd_l_add ["_law_one", "_law_other"] (sp_l_add K) := by
  have G_l_reduce := ok_l_reduce (P := P) (w := w) (base := base) T
  refine T.F_l_add.ok sc_l_add (fun vs H Q E h => ?_) (fun cdv A outer s H vs Q E hr h => ?_)
  · obtain ⟨v1, v2, x, y, rfl, _⟩ := h
    rfl
  · obtain ⟨v1, v2, x, y, rfl, f1, f2, w⟩ := h
    refine ⟨_, (pss_one (ps_ret (pe_call G_l_reduce (hr.mono (by first | decide | omega)) (by rfl) T.g_l_reduce T.F_l_reduce.kp T.b_l_reduce .nil pass0 (pa_cons (pe_op op_add (pe_op op_mulW (pe_ix ix_tup (pv 0) pe_int (fun _ _ => rfl)) (pe_ix ix_tup (pv 1) pe_int (fun _ _ => rfl))) (pe_op op_mulW (pe_ix ix_tup (pv 1) pe_int (fun _ _ => rfl)) (pe_ix ix_tup (pv 0) pe_int (fun _ _ => rfl)))) (pa_cons (pe_op op_mulW (pe_ix ix_tup (pv 0) pe_int (fun _ _ => rfl)) (pe_ix ix_tup (pv 1) pe_int (fun _ _ => rfl))) pa_nil))))), ?_⟩
    obtain ⟨p, rfl, hp⟩ := f1.fr
    obtain ⟨q, rfl, hq⟩ := f2.fr
    have cm : ∀ {i j : Int}, i.natAbs < 2 ^ 3000 → j.natAbs < 2 ^ 3000 → CMulW i j := fun a b => mulW a b (by decide) (by decide)
    refine ⟨.ref p, rfl, p, _, 0, _, rfl, rfl, hp, rfl, .ref q, rfl, q, _, 1, _, rfl, rfl, hq, rfl, x.1, y.2, rfl, rfl, cm f1.nB f2.dB, .ref q, rfl, q, _, 0, _, rfl, rfl, hq, rfl, .ref p, rfl, p, _, 1, _, rfl, rfl, hp, rfl, y.1, x.2, rfl, rfl, cm f2.nB f1.dB, _, _, rfl, rfl, ?_⟩
    refine ⟨.ref p, rfl, p, _, 1, _, rfl, rfl, hp, rfl, .ref q, rfl, q, _, 1, _, rfl, rfl, hq, rfl, x.2, y.2, rfl, rfl, cm f1.dB f2.dB, _, _, rfl, pos_ne f1.d0 f2.d0, ?_, fun r nr => w r nr⟩
    rw [Int.natAbs_mul]
    exact Nat.lt_of_lt_of_le (Nat.mul_lt_mul'' f1.dB f2.dB) (by rw [← Nat.pow_add]; exact Nat.pow_le_pow_right (by decide) (by decide))
end
section
variable {P : Program} {w : World} {K : PySem.W.Frag} {mg : Str → Option Value} {base : Heap} {a : Ad}
theorem fold_moreL {fs : List QQ} {s : QQ} {i : Nat} {f : QQ} (h : fs[i]? = some f) : (fs.take (i + 1)).foldl radd s = radd ((fs.take i).foldl radd s) f := by
  rw [List.take_add_one, h, List.foldl_append]
  rfl
def sp_l_sum (K : PySem.W.Frag) : Sp := fun vs H Q _ => ∃ (p : Addr) (xs : List V) (fs : List QQ), vs = [.ref p] ∧ SqL K H p xs ∧ Frs K H xs fs 40 ∧ xs.length ≤ 60 ∧ ∀ v H', Same H H' → FrB K H' v (fs.foldl radd (0, 1)).1 (fs.foldl radd (0, 1)).2 2600 → Q v H'

theorem ok_l_sum (T : Txt K mg a) : FnOk P w K mg base CX0 3 a.f_l_sum a.fd_l_sum ["_law_some"] (sp_l_sum K) := by
  have G_l_add := ok_l_add (P := P) (w := w) (base := base) T
  refine T.F_l_sum.ok sc_l_sum (fun vs H Q E h => ?_) (fun cdv A outer s H vs Q E hr h => ?_)
  · obtain ⟨p, xs, fs, rfl, _⟩ := h
    rfl
  · obtain ⟨p, xs, fs, rfl, hS, hF, hl, w⟩ := h
    refine ⟨_, (pss_cons (ps_set (i := 1) sc_l_sum.nd rfl (by first | exact Or.inl rfl | exact Or.inr rfl) (pe_tup (pa_cons pe_int (pa_cons pe_int pa_nil))))
          (pss_cons (ps_for PassesOwn.never rfl (pi_list (pv 0)) (pg_name (i := 2) sc_l_sum.nd rfl (by first | exact Or.inl rfl | exact Or.inr rfl)) (pss_one (ps_set (i := 1) sc_l_sum.nd rfl (by first | exact Or.inl rfl | exact Or.inr rfl) (pe_call G_l_add (hr.mono (by first | decide | omega)) (by rfl) T.g_l_add T.F_l_add.kp T.b_l_add .nil pass0 (pa_cons (pv 1) (pa_cons (pv 2) pa_nil))))))
          (pss_one (ps_ret (pv 1))))), ?_⟩
    refine ⟨sz (by show 2 ≤ 100000; decide), fun z0 nz0 => ?_⟩
    have s0 := Same.new (o := .tup [.int 0, .int 1]) nz0
    have f0 : FrB K (upd H z0 (.tup [.int 0, .int 1])) (.ref z0) 0 1 40 := ⟨Fr.new, by decide, by decide, by decide, by decide⟩
    refine ⟨.ref p, rfl, p, rfl, ⟨_, s0.seq hS⟩, for_list (K := K) (a := p) (xs := xs) (fun i σ H' => ∃ v y, σ = [some (.ref p), some v, y] ∧ Same H H' ∧ FrB K H' v ((fs.take i).foldl radd (0, 1)).1 ((fs.take i).foldl radd (0, 1)).2 (40 + 41 * i)) ⟨_, none, rfl, s0, f0⟩ (fun i σ H' _ ⟨_, _, _, s1, _⟩ => s1.seq hS) ?_ ?_⟩
    · rintro i x σ H1 hx ⟨v, y, rfl, s1, fv⟩
      obtain ⟨f, hf, fx⟩ := (hF.same s1).at hx
      have hl' := hF.1
      have hi : i < xs.length := (List.getElem?_eq_some_iff.mp hx).1
      refine ⟨v, rfl, x, rfl, v, x, _, f, rfl, fv.up' (by omega), fx.up' (by omega), fun q nq => ?_⟩
      refine ⟨_, _, rfl, s1.trans (Same.new nq), ?_⟩
      have z := FrB.add (p := q) fv fx
      rw [fold_moreL hf]
      exact z.up' (by omega)
    · rintro σ H1 ⟨v, y, rfl, s1, fv⟩
      have hl' := hF.1
      rw [hF.1, List.take_length] at fv
      exact ⟨v, rfl, w v H1 s1 (fv.up' (by omega))⟩
end
section
variable {P : Program} {w : World} {K : PySem.W.Frag} {mg : Str → Option Value} {base : Heap} {a : Ad}
def sp_l_abs (K : PySem.W.Frag) : Sp := fun vs H Q _ => ∃ (v : V) (n d : Int), vs = [v] ∧ Fr K H v n d ∧ ∀ p, H p = none → Q (.ref p) (upd H p (.tup [.int (if n < 0 then -n else n), .int d]))

theorem ok_l_abs (T : Txt K mg a) : FnOk P w K mg base CX0 1 a.f_l_abs a.fd_l_abs ["_law_one"] (sp_l_abs K) := by
  refine T.F_l_abs.ok sc_l_abs (fun vs H Q E h => ?_) (fun cdv A outer s H vs Q E hr h => ?_)
  · obtain ⟨v, n, d, rfl, _⟩ := h
    rfl
  · obtain ⟨v, n, d, rfl, ⟨p, rfl, hp⟩, w⟩ := h
    refine ⟨_, (pss_one (ps_ret (pe_tup (pa_cons (pe_callB call_abs (by rfl) T.n_abs (by decide +kernel) (pa_cons (pe_ix ix_tup (pv 0) pe_int (fun _ _ => rfl)) pa_nil)) (pa_cons (pe_ix ix_tup (pv 0) pe_int (fun _ _ => rfl)) pa_nil))))), ?_⟩
    exact ⟨_, rfl, p, _, 0, _, rfl, rfl, hp, rfl, _, rfl, _, rfl, p, _, 1, _, rfl, rfl, hp, rfl, sz (by show 2 ≤ 100000; decide), fun q nq => w q nq⟩
end
section
variable {P : Program} {w : World} {K : PySem.W.Frag} {mg : Str → Option Value} {base : Heap} {a : Ad}
def sp_l_small (K : PySem.W.Frag) : Sp := fun vs H Q _ => ∃ (r : Addr), vs = [.ref r] ∧ Rg H r ∧ ∀ v H' n d, Kp r H H' → Rg H' r → FrB K H' v n d 5 → Q v H'

theorem ok_l_small (T : Txt K mg a) : FnOk P w K mg base CX0 3 a.f_l_small a.fd_l_small ["_law_rng"] (sp_l_small K) := by
  have G_l_reduce := ok_l_reduce (P := P) (w := w) (base := base) T
  have G_l_choice := ok_l_choice (P := P) (w := w) (base := base) T
  have G_l_draw := ok_l_draw (P := P) (w := w) (base := base) T
  refine T.F_l_small.ok sc_l_small (fun vs H Q E h => ?_) (fun cdv A outer s H vs Q E hr h => ?_)
  · obtain ⟨r, rfl, _⟩ := h
    rfl
  · obtain ⟨r, rfl, R, w⟩ := h
    refine ⟨_, (pss_one (ps_ret (pe_call G_l_reduce (hr.mono (by first | decide | omega)) (by rfl) T.g_l_reduce T.F_l_reduce.kp T.b_l_reduce .nil pass0 (pa_cons (pe_op op_sub (pe_call G_l_draw (hr.mono (by first | decide | omega)) (by rfl) T.g_l_draw T.F_l_draw.kp T.b_l_draw .nil pass0 (pa_cons (pv 0) (pa_cons pe_int pa_nil))) pe_int) (pa_cons (pe_call G_l_choice (hr.mono (by first | decide | omega)) (by rfl) T.g_l_choice T.F_l_choice.kp T.b_l_choice .nil pass0 (pa_cons (pv 0) (pa_cons (pe_lst (pa_cons pe_int (pa_cons pe_int (pa_cons pe_int (pa_cons pe_int (pa_cons pe_int (pa_cons pe_int pa_nil))))))) pa_nil))) pa_nil))))), ?_⟩
    refine ⟨.ref r, rfl, r, 25, rfl, R, by decide, by decide, fun v H1 v0 v1 k1 R1 => ?_⟩
    refine ⟨_, _, rfl, rfl, .ref r, rfl, sz (by show 6 ≤ 100000; decide), fun l nl => ?_⟩
    have R2 : Rg (upd H1 l (.lst [.int 1, .int 1, .int 1, .int 2, .int 3, .int 4])) r := R1.same (Same.new nl)
    refine ⟨r, .ref l, _, rfl, R2, .inl ⟨l, rfl, R1.ne nl, .inl (SqL.of upd_same)⟩, by show 0 < 6; decide, by show 6 ≤ 100000; decide, fun x hx H2 k2 R3 => ?_⟩
    obtain ⟨j, rfl, j0, j1⟩ : ∃ j : Int, x = .int j ∧ 0 < j ∧ j < 32 := by
      simp only [List.mem_cons, List.not_mem_nil, or_false] at hx
      rcases hx with h | h | h | h | h | h
      · exact ⟨1, h, by decide, by decide⟩
      · exact ⟨1, h, by decide, by decide⟩
      · exact ⟨1, h, by decide, by decide⟩
      · exact ⟨2, h, by decide, by decide⟩
      · exact ⟨3, h, by decide, by decide⟩
      · exact ⟨4, h, by decide, by decide⟩
    have hB : (2 : Nat) ^ 5 = 32 := by decide
    refine ⟨v - 8, j, rfl, by omega, Nat.lt_of_lt_of_le (show j.natAbs < 2 ^ 5 by omega) (Nat.pow_le_pow_right (by decide) (by decide)), fun p np => ?_⟩
    have k3 := k1.trans ((Kp.of (Same.new nl)).trans k2)
    exact w _ _ _ _ (k3.trans (Kp.of (Same.new np))) (R3.same (Same.new np)) (red_B (by omega) (by omega) (by omega))
end
section
variable {P : Program} {w : World} {K : PySem.W.Frag} {mg : Str → Option Value} {base : Heap} {a : Ad}
def sp_l_letters (_ : PySem.W.Frag) : Sp := fun vs H Q _ => vs = [] ∧ Q (.str "abcdefghijklmnopqrstuvwxyz") H

theorem ok_l_letters (T : Txt K mg a) : FnOk P w K mg base CX0 1 a.f_l_letters a.fd_l_letters [] (sp_l_letters K) := by
  refine T.F_l_letters.ok sc_l_letters (fun vs H Q E h => ?_) (fun cdv A outer s H vs Q E hr h => ?_)
  · rw [h.1]; rfl
  · obtain ⟨rfl, w⟩ := h
    refine ⟨_, (pss_one (ps_ret pe_str)), ?_⟩
    exact w
end
section
variable {P : Program} {w : World} {K : PySem.W.Frag} {mg : Str → Option Value} {base : Heap} {a : Ad}
def sp_l_is_name (K : PySem.W.Frag) : Sp := fun vs H Q _ => ∃ z : Str, vs = [.str z] ∧ z.length ≤ 100000 ∧ ∀ H', Same H H' → Q (.bl (nameB z)) H'

theorem ok_l_is_name (T : Txt K mg a) : FnOk P w K mg base CX0 2 a.f_l_is_name a.fd_l_is_name ["_law_my_text"] (sp_l_is_name K) := by
  have G_l_letters := ok_l_letters (P := P) (w := w) (base := base) T
  refine T.F_l_is_name.ok sc_l_is_name (fun vs H Q E h => ?_) (fun cdv A outer s H vs Q E hr h => ?_)
  · obtain ⟨v, rfl, _⟩ := h
    rfl
  · obtain ⟨z, rfl, hz, w⟩ := h
    refine ⟨_, (pss_cons (ps_if (PW.pt (pw_or (pt_not (pt_chain op_le op_le pe_int (pe_callB call_len (by rfl) T.n_len (by decide +kernel) (pa_cons (pv 0) pa_nil)) pe_int)) (pw_or1 (pt_cmpR op_in_seq (pv 0) (pe_tup (pa_cons pe_str (pa_cons pe_str (pa_cons pe_str (pa_cons pe_str pa_nil))))) (by rfl))))) (pss_one (ps_ret pe_bl)) pss_nil)
          (pss_one (ps_ret (pe_callB (cr_all rfl) (by rfl) T.n_all (by decide +kernel) (pa_cons (pe_lc (own := [("_law_sign", 1)]) (g := gName 1) rfl sc_l_is_name.nd (pi_str (pv 0)) (blkOk_by (own := [("_law_sign", 1)]) (N := ["_law_my_text", "_law_sign"]) (sc := defScope s_l_is_name) (by decide +kernel)) (fun _ _ _ _ _ => (pg_name (i := 1) sc_l_is_name.nd rfl (Or.inl rfl))) (fun _ _ _ _ _ => pts_nil) (fun _ _ _ _ _ => (pe_cmpR op_in_sign (pv 1) (pe_call0 G_l_letters (hr.mono (by first | decide | omega)) (by rfl) T.g_l_letters T.F_l_letters.kp T.b_l_letters .nil pass0) (by rfl)))) pa_nil))))), ?_⟩
    have no : ∀ H', Same H H' → nameB z = false → Q (.bl false) H' := fun H' s e => by
      have := w H' s
      rw [e] at this
      exact this
    refine ⟨.str z, rfl, .str z, z.length, rfl, ⟨sz hz, rfl⟩, 1, (z.length : Int), rfl, rfl, _, rfl, ite2 (fun e1 => ?_) (fun e1 => ?_)⟩
    rotate_left
    · refine ⟨false, rfl, iteT (iteT (no H (Same.refl H) ?_))⟩
      have : ¬ 1 ≤ z.length := fun y => e1 (decide_eq_true (by omega))
      unfold nameB
      rw [decide_eq_false this]
      rfl
    have l1 : 1 ≤ z.length := by have := of_decide_eq_true e1; omega
    by_cases l2 : z.length ≤ 6
    rotate_left
    · refine ⟨(z.length : Int), 6, rfl, rfl, false, congrArg V.bl (decide_eq_false (by omega)), iteT (iteT (no H (Same.refl H) ?_))⟩
      unfold nameB
      rw [decide_eq_true l1, decide_eq_false l2]
      rfl
    refine ⟨(z.length : Int), 6, rfl, rfl, true, congrArg V.bl (decide_eq_true (by omega)), iteF ?_⟩
    refine ⟨.str z, rfl, sz (by show 4 ≤ 100000; decide), fun p np => ?_⟩
    have s0 := Same.new (o := .tup kws4) np
    refine ⟨p, kws4, rfl, .inr (SqT.of upd_same), rfl, rfl, _, rfl, ite2 (fun e => ?_) (fun e => ?_)⟩
    · refine no _ s0 ?_
      have e' : inV (.str z) kws4 = true := e
      unfold nameB
      rw [e', Bool.not_true, Bool.and_false, Bool.and_false]
    have e' : inV (.str z) kws4 = false := Bool.eq_false_iff.mpr e
    refine ⟨.str z, rfl, z, rfl, fun D nD => ?_⟩
    have nD0 : H D = none := s0.free nD
    refine ⟨fun i m H1 => i + m = z.length ∧ Same H H1 ∧ H1 D = some (.lst (((z.cps.toList.take i).map lowB).map V.bl)), ⟨z.length, by omega, s0.trans (Same.new nD), by rw [upd_same]; rfl⟩, fun i m H1 hW => ?_⟩
    obtain ⟨em, s1, hD⟩ := hW
    by_cases hi : i < z.length
    · refine .inr ⟨(show i < z.cps.size from hi), fun H2 => Same H H2 ∧ H2 D = some (.lst (((z.cps.toList.take (i + 1)).map lowB).map V.bl)), fun H2 hN => ⟨m - 1, by omega, by omega, hN.1, hN.2⟩, fun v H2 hy => ?_⟩
      obtain ⟨rfl, c, hc, rfl⟩ := hy
      have hc2 : z.cps.toList[i]? = some c := by rw [Array.getElem?_toList]; exact hc
      refine ⟨rfl, tYes_if ?_⟩
      refine ⟨.str ⟨#[c]⟩, rfl, rfl, c, "abcdefghijklmnopqrstuvwxyz", rfl, rfl, ?_⟩
      refine ⟨_, hD, ?_, fun x o e => ?_, ?_⟩
      · rw [List.length_map, List.length_map, List.length_take]
        exact szl (by omega)
      · rw [upd_ne (ne_of_none e nD0)]
        exact s1 _ _ e
      · rw [upd_same, abc_mem, tk_more hc2, List.map_append]
        rfl
    · have ei : i = z.length := by omega
      subst ei
      refine .inl ⟨(show z.cps.size ≤ z.length from Nat.le_refl _), ?_⟩
      rw [show z.cps.toList.take z.length = z.cps.toList by rw [← cps_len, List.take_length]] at hD
      refine ⟨D, z.cps.toList.map lowB, rfl, SqL.of hD, ?_⟩
      have ea : (z.cps.toList.map lowB).all id = z.cps.toList.all lowB := by rw [List.all_map]; rfl
      rw [ea]
      have := w H1 s1
      unfold nameB at this
      rw [decide_eq_true l1, decide_eq_true l2, e', Bool.not_false, Bool.and_true, Bool.and_true, Bool.true_and] at this
      exact this
end
section
variable {P : Program} {w : World} {K : PySem.W.Frag} {mg : Str → Option Value} {base : Heap} {a : Ad}
def sp_l_plain (K : PySem.W.Frag) : Sp := fun vs H Q _ => ∃ (l : Addr) (ss : List Str), vs = [.ref l] ∧ SqL K H l (ss.map V.str) ∧ ss.length ≤ 60 ∧ (∀ s ∈ ss, s.length ≤ 1000) ∧ ∀ (b : Bool) H', Same H H' → (b = true → ss.Nodup ∧ ∀ s ∈ ss, nameB s = true) → Q (.bl b) H'

theorem ok_l_plain (T : Txt K mg a) : FnOk P w K mg base CX0 3 a.f_l_plain a.fd_l_plain ["_law_names_here"] (sp_l_plain K) := by
  have G_l_is_name := ok_l_is_name (P := P) (w := w) (base := base) T
  refine T.F_l_plain.ok sc_l_plain (fun vs H Q E h => ?_) (fun cdv A outer s H vs Q E hr h => ?_)
  · obtain ⟨l, ss, rfl, _⟩ := h
    rfl
  · obtain ⟨l, ss, rfl, hS, hl, hs, w⟩ := h
    refine ⟨_, (pss_one (ps_ret (pe_and (pe_cmpR op_eq (StT.pe_lenSetT rfl (by rfl) T.n_len (by rfl) T.n_set (pv 0)) (pe_callB call_len (by rfl) T.n_len (by decide +kernel) (pa_cons (pv 0) pa_nil)) (nomark _)) (pe_one (pe_callB (cr_all rfl) (by rfl) T.n_all (by decide +kernel) (pa_cons (pe_lc (own := [("_law_name", 1)]) (g := gName 1) rfl sc_l_plain.nd (pi_list (pv 0)) (blkOk_by (own := [("_law_name", 1)]) (N := ["_law_names_here", "_law_name"]) (sc := defScope s_l_plain) (by decide +kernel)) (fun _ _ _ _ _ => (pg_name (i := 1) sc_l_plain.nd rfl (Or.inl rfl))) (fun _ _ _ _ _ => pts_nil) (fun _ _ _ _ _ => (pe_call G_l_is_name (hr.mono (by first | decide | omega)) (by rfl) T.g_l_is_name T.F_l_is_name.kp T.b_l_is_name .nil pass0 (pa_cons (pv 1) pa_nil)))) pa_nil)))))), ?_⟩
    refine ⟨.ref l, rfl, l, ss, rfl, hS, by omega, fun m m1 m2 => ?_⟩
    refine ⟨.ref l, rfl, .ref l, (ss.map V.str).length, rfl, .inl ⟨_, hS, rfl⟩, rfl, _, rfl, ite2 (fun e => ?_) (fun e => ?_)⟩
    rotate_left
    · exact w false H (Same.refl H) fun z => by cases z
    have em : m = ss.length := by
      have := V.int.inj (of_decide_eq_true e)
      rw [List.length_map] at this
      omega
    have nd := m2 em
    refine ⟨.ref l, rfl, l, rfl, ⟨_, hS⟩, fun D nD => ?_⟩
    refine lc_list (K := K) (a := l) (xs := ss.map V.str) (fun i H2 => Same H H2 ∧ H2 D = some (.lst (((ss.take i).map nameB).map V.bl))) ⟨Same.new nD, upd_same⟩ (fun i H2 _ z => z.1.seq hS) ?_ ?_
    · rintro i x H2 hx ⟨s2, hD⟩
      obtain ⟨q, hq, rfl⟩ : ∃ q, ss[i]? = some q ∧ x = V.str q := by
        rw [List.getElem?_map] at hx
        cases e : ss[i]? with
        | none => rw [e] at hx; cases hx
        | some q => rw [e] at hx; exact ⟨q, rfl, (Option.some.inj hx).symm⟩
      refine ⟨rfl, tYes_if ?_⟩
      have hql := hs q (List.mem_of_getElem? hq)
      refine ⟨.str q, rfl, q, rfl, by omega, fun H3 s3 => ⟨_, s3 _ _ hD, ?_, fun b o z => ?_, ?_⟩⟩
      · rw [List.length_map, List.length_map, List.length_take]; exact szl (by omega)
      · rw [upd_ne (ne_of_none z nD)]; exact s3 _ _ (s2 _ _ z)
      · rw [upd_same, tk_more hq, List.map_append]; rfl
    · rintro H2 ⟨s2, hD⟩
      rw [List.length_map, List.take_length] at hD
      refine ⟨D, ss.map nameB, rfl, SqL.of hD, ?_⟩
      refine w _ H2 s2 fun z => ⟨nd, fun s hs' => ?_⟩
      rw [List.all_map, List.all_eq_true] at z
      exact z s hs'
end
section
variable {P : Program} {w : World} {K : PySem.W.Frag} {mg : Str → Option Value} {base : Heap} {a : Ad}
def sp_l_names (K : PySem.W.Frag) : Sp := fun vs H Q _ => ∃ (r : Addr) (q : Nat), vs = [.ref r, .int (q : Nat)] ∧ Rg H r ∧ 1 ≤ q ∧ q ≤ 8 ∧ ∀ (l : Addr) (H' : Hp) (ss : List Str), Kp r H H' → Rg H' r → H' l = some (.lst (ss.map V.str)) → l ≠ r → ss.length = q → ss.Nodup → (∀ s ∈ ss, nameB s = true) → Q (.ref l) H'
theorem jn_len : ∀ (ys : List Str), (∀ y ∈ ys, y.length = 1) → (Txt.join "" ys).length = ys.length
  | ys, h => by
    rw [TL.join_eq]
    induction ys with
    | nil => rfl
    | cons y r ih =>
      cases r with
      | nil => exact h y List.mem_cons_self
      | cons z r =>
        have i1 := ih (fun x hx => h x (List.mem_cons_of_mem _ hx))
        show (y ++ "" ++ Str.join "" (z :: r)).length = _
        rw [Str.length_append, Str.length_append, i1, h y List.mem_cons_self]
        show 1 + 0 + (z :: r).length = (y :: z :: r).length
        rw [List.length_cons, List.length_cons, List.length_cons]
        omega
theorem ones_sum : ∀ (ys : List Str), (∀ y ∈ ys, y.length = 1) → (ys.map (·.length)).sum = ys.length
  | [], _ => rfl
  | y :: r, h => by
    rw [List.map_cons, List.sum_cons, ones_sum r (fun x hx => h x (List.mem_cons_of_mem _ hx)), h y List.mem_cons_self, List.length_cons]
    omega
def spare : List Str := ["a", "bb", "ccc", "dddd", "eeeee", "ffffff", "g", "hh"]
theorem spare_nd : spare.Nodup := by decide +kernel
theorem spare_nm : ∀ s ∈ spare, nameB s = true := by decide +kernel
theorem cut_to (xs : List V) (q : Nat) (h : q ≤ xs.length) : cutV xs none (some (q : Int)) = xs.take q := by
  unfold cutV
  rw [HT.sIx_none, show HT.sIx xs.length xs.length (some (q : Int)) = min q xs.length from HT.sIx_nat xs.length xs.length q, List.drop_zero, show min q xs.length - 0 = q by omega]

theorem ok_l_names (T : Txt K mg a) : FnOk P w K mg base CX0 4 a.f_l_names a.fd_l_names ["_law_rng", "_law_quantity"] (sp_l_names K) := by
  have G_l_choice := ok_l_choice (P := P) (w := w) (base := base) T
  have G_l_letters := ok_l_letters (P := P) (w := w) (base := base) T
  have G_l_draw := ok_l_draw (P := P) (w := w) (base := base) T
  have G_l_plain := ok_l_plain (P := P) (w := w) (base := base) T
  refine T.F_l_names.ok sc_l_names (fun vs H Q E h => ?_) (fun cdv A outer s H vs Q E hr h => ?_)
  · obtain ⟨r, q, rfl, _⟩ := h
    rfl
  · obtain ⟨r, q, rfl, R, q1, q8, w⟩ := h
    refine ⟨_, (pss_cons (ps_asg (pe_tup (pa_cons (pe_call0 G_l_letters (hr.mono (by first | decide | omega)) (by rfl) T.g_l_letters T.F_l_letters.kp T.b_l_letters .nil pass0) (pa_cons (pe_op op_add pe_int (pe_call G_l_draw (hr.mono (by first | decide | omega)) (by rfl) T.g_l_draw T.F_l_draw.kp T.b_l_draw .nil pass0 (pa_cons (pv 0) (pa_cons pe_int pa_nil)))) pa_nil))) (pg_tup rfl (pgs_cons (pg_name (i := 2) sc_l_names.nd rfl (by first | exact Or.inl rfl | exact Or.inr rfl)) (pgs_cons (pg_name (i := 3) sc_l_names.nd rfl (by first | exact Or.inl rfl | exact Or.inr rfl)) pgs_nil))))
          (pss_cons (ps_par (i := 4) (j := 5) (by rfl) sc_l_names.nd rfl rfl (by decide) rfl rfl (pa_cons (pe_call G_l_draw (hr.mono (by first | decide | omega)) (by rfl) T.g_l_draw T.F_l_draw.kp T.b_l_draw .nil pass0 (pa_cons (pv 0) (pa_cons (pv 3) pa_nil))) (pa_cons (pe_call G_l_draw (hr.mono (by first | decide | omega)) (by rfl) T.g_l_draw T.F_l_draw.kp T.b_l_draw .nil pass0 (pa_cons (pv 0) (pa_cons pe_int pa_nil))) pa_nil)) (by rfl))
          (pss_cons (ps_set (i := 6) sc_l_names.nd rfl (by first | exact Or.inl rfl | exact Or.inr rfl) (pe_call G_l_choice (hr.mono (by first | decide | omega)) (by rfl) T.g_l_choice T.F_l_choice.kp T.b_l_choice .nil pass0 (pa_cons (pv 0) (pa_cons (pe_lst (pa_cons pe_int (pa_cons pe_int (pa_cons pe_int (pa_cons pe_int (pa_cons pe_int pa_nil)))))) pa_nil))))
          (pss_cons (ps_set (i := 7) sc_l_names.nd rfl (by first | exact Or.inl rfl | exact Or.inr rfl) (pe_join pe_str (pe_lc (own := [("_law_k", 9)]) (g := gName 9) rfl sc_l_names.nd (pi_range1 (by rfl) T.n_range (pa_cons (pv 3) pa_nil)) (blkOk_by (own := [("_law_k", 9)]) (N := ["_law_rng", "_law_quantity", "_law_abc", "_law_width", "_law_pos", "_law_lead", "_law_step", "_law_base", "_law_result", "_law_k", "_law_sign", "_law_name", "_law_cut", "_law_spare"]) (sc := defScope s_l_names) (by decide +kernel)) (fun _ _ _ _ _ => (pg_name (i := 9) sc_l_names.nd rfl (Or.inl rfl))) (fun _ _ _ _ _ => pts_nil) (fun _ _ _ _ _ => (pe_call G_l_choice (hr.mono (by first | decide | omega)) (by rfl) T.g_l_choice T.F_l_choice.kp T.b_l_choice .nil pass0 (pa_cons (pv 0) (pa_cons (pv 2) pa_nil)))))))
          (pss_cons (ps_set (i := 8) sc_l_names.nd rfl (by first | exact Or.inl rfl | exact Or.inr rfl) (pe_lst pa_nil))
          (pss_cons (ps_for PassesOwn.never rfl (pi_range1 (by rfl) T.n_range (pa_cons (pv 1) pa_nil)) (pg_name (i := 9) sc_l_names.nd rfl (by first | exact Or.inl rfl | exact Or.inr rfl)) (pss_cons (ps_set (i := 10) sc_l_names.nd rfl (by first | exact Or.inl rfl | exact Or.inr rfl) (pe_ix ix_str (pv 2) (pe_op op_mod (pe_op op_add (pv 5) (pe_op op_mul (pv 6) (pv 9))) pe_int) (fun _ _ => rfl)))
          (pss_cons (ps_set (i := 11) sc_l_names.nd rfl (by first | exact Or.inl rfl | exact Or.inr rfl) (pe_op op_add_str (pe_op op_add_str (pe_slice sl_str (pv 7) po_none (po_some (pv 4))) (pv 10)) (pe_slice sl_str (pv 7) (po_some (pe_op op_add (pv 4) pe_int)) po_none)))
          (pss_cons (ps_set (i := 12) sc_l_names.nd rfl (by first | exact Or.inl rfl | exact Or.inr rfl) (pe_callB (call_max2 rfl) (by rfl) T.n_max (by decide +kernel) (pa_cons (pe_op op_add (pv 4) pe_int) (pa_cons (pe_op op_sub (pv 3) (pv 9)) pa_nil))))
          (pss_one (ps_expr (pe_bm PySem.F.plainAttrs_list PySem.F.slot_list_append PySem.F.type_list_append mt_append (pv 8) (pa_cons (pe_ifExp (pt_cmpR op_eq (pe_call G_l_draw (hr.mono (by first | decide | omega)) (by rfl) T.g_l_draw T.F_l_draw.kp T.b_l_draw .nil pass0 (pa_cons (pv 0) (pa_cons pe_int pa_nil))) pe_int (nomark _)) (pe_slice sl_str (pv 11) po_none (po_some (pv 12))) (pv 11)) pa_nil))))))))
          (pss_cons (ps_set (i := 13) sc_l_names.nd rfl (by first | exact Or.inl rfl | exact Or.inr rfl) (pe_lst (pa_cons pe_str (pa_cons pe_str (pa_cons pe_str (pa_cons pe_str (pa_cons pe_str (pa_cons pe_str (pa_cons pe_str (pa_cons pe_str pa_nil))))))))))
          (pss_one (ps_ret (pe_ifExp (pt_val (pe_call G_l_plain (hr.mono (by first | decide | omega)) (by rfl) T.g_l_plain T.F_l_plain.kp T.b_l_plain .nil pass0 (pa_cons (pv 8) pa_nil))) (pv 8) (pe_slice sl_list (pv 13) po_none (po_some (pv 1))))))))))))), ?_⟩
    have B40 : True := trivial
    refine ⟨rfl, .ref r, rfl, r, 6, rfl, R, by decide, by decide, fun wd H1 w0 w1 k1 R1 => ⟨1, wd, rfl, rfl, sz (by show 2 ≤ 100000; decide), fun tp ntp => ?_⟩⟩
    have st := Same.new (o := .tup [.str "abcdefghijklmnopqrstuvwxyz", .int (1 + wd)]) ntp
    refine ⟨tp, _, rfl, SqT.of upd_same, rfl, _, _, rfl, _, _, rfl, rfl, ?_⟩
    generalize upd H1 tp (.tup [.str "abcdefghijklmnopqrstuvwxyz", .int (1 + wd)]) = H2 at st
    have R2 := R1.same st
    have k2 := k1.trans (Kp.of st)
    refine ⟨.ref r, rfl, .int (1 + wd), rfl, r, 1 + wd, rfl, R2, by omega, by omega, fun ps H3 p0 p1 k3 R3 => ?_⟩
    refine ⟨.ref r, rfl, r, 26, rfl, R3, by decide, by decide, fun ld H4 l0 l1 k4 R4 => ?_⟩
    refine ⟨_, _, rfl, ?_⟩
    refine ⟨.ref r, rfl, sz (by show 5 ≤ 100000; decide), fun cl ncl => ?_⟩
    have sc := Same.new (o := .lst [.int 1, .int 3, .int 5, .int 7, .int 9]) ncl
    refine ⟨r, .ref cl, _, rfl, R4.same sc, .inl ⟨cl, rfl, R4.ne ncl, .inl (SqL.of upd_same)⟩, by show 0 < 5; decide, by show 5 ≤ 100000; decide, fun x hx H5 k5 R5 => ?_⟩
    obtain ⟨sp, rfl, sp0, sp1⟩ : ∃ j : Int, x = .int j ∧ 0 ≤ j ∧ j < 10 := by
      simp only [List.mem_cons, List.not_mem_nil, or_false] at hx
      rcases hx with h | h | h | h | h
      · exact ⟨1, h, by decide, by decide⟩
      · exact ⟨3, h, by decide, by decide⟩
      · exact ⟨5, h, by decide, by decide⟩
      · exact ⟨7, h, by decide, by decide⟩
      · exact ⟨9, h, by decide, by decide⟩
    have k05 := (k2.trans (k3.trans k4)).trans ((Kp.of sc).trans k5)
    -- the base
    refine ⟨⟨_, rfl⟩, .int (1 + wd), rfl, 1 + wd, rfl, by omega, by omega, fun D nD => ?_⟩
    have Dr : D ≠ r := R5.ne nD
    refine ⟨fun i m H6 => i + m = (1 + wd).toNat ∧ Kp r H5 H6 ∧ Rg H6 r ∧ ∃ ys : List Str, H6 D = some (.lst (ys.map V.str)) ∧ ys.length = i ∧ ∀ y ∈ ys, y.length = 1, ⟨(1 + wd).toNat, by omega, Kp.of (Same.new nD), R5.same (Same.new nD), [], upd_same, rfl, fun y hy => by cases hy⟩, fun i m H6 hW => ?_⟩
    obtain ⟨em, k6, R6, ys, hD, hyl, hy1⟩ := hW
    by_cases hi : i < (1 + wd).toNat
    · refine .inr ⟨hi, fun H7 => Kp r H5 H7 ∧ Rg H7 r ∧ ∃ ys : List Str, H7 D = some (.lst (ys.map V.str)) ∧ ys.length = i + 1 ∧ ∀ y ∈ ys, y.length = 1, fun H7 hN => ⟨m - 1, by omega, by omega, hN⟩, fun v H7 hy => ?_⟩
      obtain ⟨rfl, rfl⟩ := hy
      refine ⟨rfl, tYes_if ?_⟩
      refine ⟨.ref r, rfl, .str "abcdefghijklmnopqrstuvwxyz", rfl, r, .str "abcdefghijklmnopqrstuvwxyz", _, rfl, R6, .inr ⟨_, rfl, rfl⟩, by decide +kernel, by decide +kernel, fun x hx H8 k8 R8 => ?_⟩
      obtain ⟨c, _, rfl⟩ := List.mem_map.mp hx
      refine ⟨_, k8.1 _ _ Dr hD, by rw [List.length_map]; exact szl (by omega), (k6.trans k8).put (H := H5) nD Dr, R5.put nD (k6.trans k8) R8, ys ++ [⟨#[c]⟩], ?_, ?_, ?_⟩
      · rw [upd_same, List.map_append]; rfl
      · rw [List.length_append, hyl]; rfl
      · intro y hy
        rcases List.mem_append.mp hy with h | h
        · exact hy1 y h
        · rw [List.mem_singleton.mp h]; rfl
    have ei : i = (1 + wd).toNat := by omega
    subst ei
    refine .inl ⟨Nat.le_refl _, _, D, ys, rfl, rfl, .inl (SqL.of hD), ?_, ?_⟩
    · rw [ones_sum ys hy1]
      show ys.length + ys.length * 0 ≤ _
      omega
    have jl : (Txt.join "" ys).length = (1 + wd).toNat := by rw [jn_len ys hy1, hyl]
    generalize Txt.join "" ys = bs at jl
    have la := Str.length_append
    -- the names
    refine ⟨sz (by show 0 ≤ 100000; decide), fun rl nrl => ?_⟩
    have rlr : rl ≠ r := R6.ne nrl
    have sr := Same.new (o := .lst []) nrl
    refine ⟨.int (q : Nat), rfl, (q : Int), rfl, by omega, by omega, ?_⟩
    rw [Int.toNat_natCast]
    refine for_range (n := q) (fun i σ H7 => ∃ y9 y10 y11 y12, σ = [some (.ref r), some (.int (q : Nat)), some (.str "abcdefghijklmnopqrstuvwxyz"), some (.int (1 + wd)), some (.int ps), some (.int ld), some (.int sp), some (.str bs), some (.ref rl), y9, y10, y11, y12, none] ∧ Kp r H6 H7 ∧ Rg H7 r ∧ ∃ ss : List Str, H7 rl = some (.lst (ss.map V.str)) ∧ ss.length = i ∧ ∀ s ∈ ss, s.length ≤ 20) ⟨none, none, none, none, rfl, Kp.of sr, R6.same sr, [], upd_same, rfl, fun s hs => by cases hs⟩ ?_ ?_
    · rintro i σ H7 hi7 ⟨y9, y10, y11, y12, rfl, k7, R7, ss, hrl, hsl, hs⟩
      have z0 : 0 ≤ (ld + sp * (0 + (i : Int))) % 26 := Int.emod_nonneg _ (by decide)
      have z1 : (ld + sp * (0 + (i : Int))) % 26 < 26 := Int.emod_lt_of_pos _ (by decide)
      obtain ⟨c, hc, _⟩ := at_int (xs := (("abcdefghijklmnopqrstuvwxyz" : Str)).cps.toList) z0 (by rw [show (("abcdefghijklmnopqrstuvwxyz" : Str)).cps.toList.length = 26 by decide +kernel]; exact z1)
      refine ⟨.str "abcdefghijklmnopqrstuvwxyz", rfl, .int ld, rfl, .int sp, rfl, .int (0 + (i : Int)), rfl, sp, _, rfl, rfl, .inl ⟨by omega, by omega⟩, ld, _, rfl, rfl, _, 26, rfl, rfl, (show (0 : Int) < 26 by decide), _, _, c, rfl, rfl, by decide +kernel, hc, ?_⟩
      have c1 := cutS_length bs none (some ps)
      have c2 := cutS_length bs (some (ps + 1)) none
      have o1 : (⟨#[c]⟩ : Str).length = 1 := rfl
      refine ⟨.str bs, rfl, .int ps, rfl, ps, rfl, bs, rfl, sz (by omega), .str ⟨#[c]⟩, rfl, _, _, rfl, rfl, sz (by omega), .str bs, rfl, .int ps, rfl, _, _, rfl, rfl, _, rfl, bs, rfl, sz (by omega), _, _, rfl, rfl, sz (by rw [la]; omega), ?_⟩
      have nl : (cutS bs none (some ps) ++ ⟨#[c]⟩ ++ cutS bs (some (ps + 1)) none).length ≤ 20 := by rw [la, la]; omega
      generalize cutS bs none (some ps) ++ ⟨#[c]⟩ ++ cutS bs (some (ps + 1)) none = nm at nl
      refine ⟨.int ps, rfl, _, _, rfl, rfl, .int (1 + wd), rfl, .int (0 + (i : Int)), rfl, _, _, rfl, rfl, _, _, rfl, ?_⟩
      have c3 := fun j => cutS_length nm none (some j)
      have fin : ∀ (v : Str) (H8 : Hp), v.length ≤ 20 → Kp r H7 H8 → Rg H8 r → rAppend (.ref rl) [.str v] H8 (fun _ H9 => ∃ (y9 y10 y11 y12 : Option V), ([some (.ref r), some (.int (q : Nat)), some (.str "abcdefghijklmnopqrstuvwxyz"), some (.int (1 + wd)), some (.int ps), some (.int ld), some (.int sp), some (.str bs), some (.ref rl), some (.int (0 + (i : Int))), some (.str ⟨#[c]⟩), some (.str nm), some (.int (if 1 + wd - (0 + (i : Int)) > ps + 1 then 1 + wd - (0 + (i : Int)) else ps + 1)), none] : List (Option V)) = [some (.ref r), some (.int (q : Nat)), some (.str "abcdefghijklmnopqrstuvwxyz"), some (.int (1 + wd)), some (.int ps), some (.int ld), some (.int sp), some (.str bs), some (.ref rl), y9, y10, y11, y12, none] ∧ Kp r H6 H9 ∧ Rg H9 r ∧ ∃ ss : List Str, H9 rl = some (.lst (ss.map V.str)) ∧ ss.length = i + 1 ∧ ∀ s ∈ ss, s.length ≤ 20) := by
        intro v H8 lv k8 R8
        have h8 := k8.1 _ _ rlr hrl
        refine ⟨rl, _, _, rfl, rfl, h8, by rw [List.length_map]; exact szl (by omega), _, _, _, _, rfl, (k7.trans k8).put (H := H6) nrl rlr, R6.put nrl (k7.trans k8) R8, ss ++ [v], by rw [upd_same, List.map_append]; rfl, by rw [List.length_append, hsl]; rfl, fun s hs' => ?_⟩
        rcases List.mem_append.mp hs' with z | z
        · exact hs s z
        · rw [List.mem_singleton.mp z]; exact lv
      refine ⟨.ref rl, rfl, .inl ⟨rfl, _, SqL.of hrl⟩, .ref r, rfl, r, 3, rfl, R7, by decide, by decide, fun z H8 y0 y1 k8 R8 => ⟨rfl, _, rfl, ite2 (fun e => ?_) (fun e => ?_)⟩⟩
      · exact ⟨.str nm, rfl, .int _, rfl, _, rfl, nm, rfl, sz (by omega), fin _ H8 (Nat.le_trans (c3 _) nl) k8 R8⟩
      · exact ⟨.str nm, rfl, fin _ H8 nl k8 R8⟩
    · rintro σ H7 ⟨y9, y10, y11, y12, rfl, k7, R7, ss, hrl, hsl, hs⟩
      refine ⟨sz (by show 8 ≤ 100000; decide), fun sl nsl => ?_⟩
      have ssl := Same.new (o := .lst (spare.map V.str)) nsl
      have R8 : Rg (upd H7 sl (.lst (spare.map V.str))) r := R7.same ssl
      have k07 := (k05.trans k6).trans (k7.trans (Kp.of ssl))
      refine ⟨.ref rl, rfl, rl, ss, rfl, SqL.of (ssl _ _ hrl), by omega, fun s h => Nat.le_trans (hs s h) (by decide), fun b H8 s8 hb => ⟨b, rfl, ?_⟩⟩
      cases b with
      | true =>
        obtain ⟨n1, n2⟩ := hb rfl
        exact iteT ⟨.ref rl, rfl, w rl H8 ss (k07.trans (Kp.of s8)) (R8.same s8) (s8 _ _ (ssl _ _ hrl)) rlr (by omega) n1 n2⟩
      | false =>
        refine iteF ⟨.ref sl, rfl, .int (q : Nat), rfl, (q : Int), rfl, sl, _, rfl, SqL.of (s8 _ _ upd_same), fun p np => ?_⟩
        rw [cut_to _ q (by show q ≤ 8; exact q8)]
        have sp9 := Same.new (o := .lst ((spare.map V.str).take q)) np
        refine w p _ (spare.take q) ((k07.trans (Kp.of s8)).trans (Kp.of sp9)) ((R8.same s8).same sp9) (by rw [upd_same, List.map_take]; rfl) ((R8.same s8).ne np) ?_ ?_ fun s h => spare_nm s (List.mem_of_mem_take h)
        · rw [List.length_take]
          show min q 8 = q
          omega
        · exact spare_nd.sublist (List.take_sublist _ _)
end
section
variable {P : Program} {w : World} {K : PySem.W.Frag} {mg : Str → Option Value} {base : Heap} {a : Ad}
def sp_l_operands (K : PySem.W.Frag) : Sp := spSubsR K

theorem ok_l_operands (T : Txt K mg a) : FnOk P w K mg base CX0 1 a.f_l_operands a.fd_l_operands ["_law_my_term"] (sp_l_operands K) := by
  refine T.F_l_operands.ok sc_l_operands (fun vs H Q E h => ?_) (fun cdv A outer s H vs Q E hr h => ?_)
  · obtain ⟨v, t, n, rfl, _⟩ := h
    rfl
  · obtain ⟨v, t, n, rfl, ht, w⟩ := h
    refine ⟨_, (pss_cons (ps_if (pt_cmpR op_eq (pe_ix ix_tup (pv 0) pe_int (fun _ _ => rfl)) pe_str (nomark _)) (pss_one (ps_ret (pe_lst pa_nil))) pss_nil)
          (pss_cons (ps_if (pt_cmpR op_eq (pe_ix ix_tup (pv 0) pe_int (fun _ _ => rfl)) pe_str (nomark _)) (pss_one (ps_ret (pe_lst (pa_cons (pe_ix ix_tup (pv 0) pe_int (fun _ _ => rfl)) pa_nil)))) pss_nil)
          (pss_cons (ps_if (pt_cmpR op_eq (pe_ix ix_tup (pv 0) pe_int (fun _ _ => rfl)) pe_str (nomark _)) (pss_one (ps_ret (pe_lc (own := [("_law_share", 1), ("_law_one", 2)]) (g := gTup K 2 (gCons (gName 1) (gCons (gName 2) gNil))) rfl sc_l_operands.nd (pi_tup (pe_slice sl_tup (pv 0) (po_some pe_int) po_none)) (blkOk_by (own := [("_law_share", 1), ("_law_one", 2)]) (N := ["_law_my_term", "_law_share", "_law_one"]) (sc := defScope s_l_operands) (by decide +kernel)) (fun _ _ _ _ _ => (pg_tup rfl (pgs_cons (pg_name (i := 1) sc_l_operands.nd rfl (Or.inl rfl)) (pgs_cons (pg_name (i := 2) sc_l_operands.nd rfl (Or.inl rfl)) pgs_nil)))) (fun _ _ _ _ _ => pts_nil) (fun _ _ _ _ _ => (pv 2))))) pss_nil)
          (pss_one (ps_ret (pe_callTy call_list_of (by rfl) T.n_list (by decide +kernel) (pa_cons (pe_slice sl_tup (pv 0) (po_some pe_int) po_none) pa_nil))))))), ?_⟩
    obtain ⟨k, ts⟩ := t
    obtain ⟨l60, xs, hN, hA⟩ := ht
    have hlen := hA.1
    match k, hN with
    | .ev ss, ⟨ex, _, _, p, e, hp⟩ =>
      subst e ex
      have e0 : ts = [] := List.length_eq_zero_iff.mp hlen.symm
      subst e0
      refine ⟨.ref p, rfl, p, _, 0, _, rfl, rfl, hp, atI_nat (j := 0) rfl, rfl, _, rfl, ifT (decide_eq_true rfl) ?_⟩
      exact ⟨sz (by show 0 ≤ 100000; decide), fun l nl => w l _ [] (Same.new nl) nl upd_same All3.nil⟩
    | .dl none, ⟨p, x, ex, e, hp⟩ =>
      subst e ex
      refine ⟨.ref p, rfl, p, _, 0, _, rfl, rfl, hp, atI_nat (j := 0) rfl, rfl, _, rfl, ifF (str_no (by decide +kernel)) ⟨.ref p, rfl, p, _, 0, _, rfl, rfl, hp, atI_nat (j := 0) rfl, rfl, _, rfl, ifT (decide_eq_true rfl) ?_⟩⟩
      exact ⟨.ref p, rfl, p, _, 1, _, rfl, rfl, hp, rfl, sz (by show 1 ≤ 100000; decide), fun l nl => w l _ [x] (Same.new nl) nl upd_same (hA.mono fun _ _ z => z.same (Same.new nl))⟩
    | .dl (some f), ⟨p, x, fv, ex, e, hp, _⟩ =>
      subst e ex
      refine ⟨.ref p, rfl, p, _, 0, _, rfl, rfl, hp, atI_nat (j := 0) rfl, rfl, _, rfl, ifF (str_no (by decide +kernel)) ⟨.ref p, rfl, p, _, 0, _, rfl, rfl, hp, atI_nat (j := 0) rfl, rfl, _, rfl, ifT (decide_eq_true rfl) ?_⟩⟩
      exact ⟨.ref p, rfl, p, _, 1, _, rfl, rfl, hp, rfl, sz (by show 1 ≤ 100000; decide), fun l nl => w l _ [x] (Same.new nl) nl upd_same (hA.mono fun _ _ z => z.same (Same.new nl))⟩
    | .mx ws, ⟨p, ys, e, hp, l1, l2, hm⟩ =>
      subst e
      refine ⟨.ref p, rfl, p, _, 0, _, rfl, rfl, hp, atI_nat (j := 0) rfl, rfl, _, rfl, ifF (str_no (by decide +kernel)) ⟨.ref p, rfl, p, _, 0, _, rfl, rfl, hp, atI_nat (j := 0) rfl, rfl, _, rfl, ifF (str_no (by decide +kernel)) ⟨.ref p, rfl, p, _, 0, _, rfl, rfl, hp, atI_nat (j := 0) rfl, rfl, _, rfl, ifT (decide_eq_true rfl) ?_⟩⟩⟩
      refine ⟨.ref p, rfl, 1, rfl, p, _, rfl, hp, not_whole _ _, fun c nc => ?_⟩
      rw [cut_one]
      have sc := Same.new (o := .tup ys) nc
      refine ⟨c, rfl, ⟨_, SqT.of upd_same⟩, fun D nD => ?_⟩
      have nD0 : H D = none := sc.free nD
      have cD : c ≠ D := ne_of_none upd_same nD
      refine lc_tup (K := K) (a := c) (xs := ys) (fun i H1 => Same H H1 ∧ H1 c = some (.tup ys) ∧ H1 D = some (.lst (xs.take i))) ⟨sc.trans (Same.new nD), by rw [upd_ne cD]; exact upd_same, upd_same⟩ (fun i H1 _ h1 => SqT.of h1.2.1) ?_ ?_
      · rintro i y H1 hy ⟨s1, hc, hD⟩
        have il : i < ys.length := (List.getElem?_eq_some_iff.mp hy).1
        have hx : xs[i]? = some (xs[i]'(by omega)) := List.getElem?_eq_getElem _
        have hf : ws[i]? = some (ws[i]'(by omega)) := List.getElem?_eq_getElem _
        obtain ⟨q, wv, rfl, hq, _⟩ := hm i y _ _ hy hx hf
        have hq1 := Same.T s1 hq
        refine ⟨q, _, rfl, hq1, rfl, _, _, rfl, _, _, rfl, rfl, rfl, tYes_if ?_⟩
        refine ⟨_, rfl, ?_⟩
        refine ⟨_, hD, ?_, fun b o e => ?_, ?_, ?_⟩
        · rw [List.length_take]; exact szl (by omega)
        · rw [upd_ne (ne_of_none e nD0)]; exact s1 _ _ e
        · rw [upd_ne cD]; exact hc
        · rw [upd_same, List.take_add_one, hx]; rfl
      · rintro H1 ⟨s1, hc, hD⟩
        rw [show ys.length = xs.length from l1, List.take_length] at hD
        exact w D H1 xs s1 nD0 hD (hA.mono fun _ _ z => z.same s1)
    | .nn kk, ⟨n1, n2, n3, p, e, hp⟩ =>
      subst e
      refine ⟨.ref p, rfl, p, _, 0, _, rfl, rfl, hp, atI_nat (j := 0) rfl, rfl, _, rfl, ifF (decide_eq_false fun y => n1 (V.str.inj y)) ⟨.ref p, rfl, p, _, 0, _, rfl, rfl, hp, atI_nat (j := 0) rfl, rfl, _, rfl, ifF (decide_eq_false fun y => n2 (V.str.inj y)) ⟨.ref p, rfl, p, _, 0, _, rfl, rfl, hp, atI_nat (j := 0) rfl, rfl, _, rfl, ifF (decide_eq_false fun y => n3 (V.str.inj y)) ?_⟩⟩⟩
      refine ⟨.ref p, rfl, 1, rfl, p, _, rfl, hp, not_whole _ _, fun c nc => ?_⟩
      rw [cut_one]
      have sc := Same.new (o := .tup xs) nc
      refine ⟨c, xs, rfl, .inr (SqT.of upd_same), fun l nl => ?_⟩
      have s2 := sc.trans (Same.new (o := .lst xs) nl)
      exact w l _ xs s2 (sc.free nl) upd_same (hA.mono fun _ _ z => z.same s2)
end
section
variable {P : Program} {w : World} {K : PySem.W.Frag} {mg : Str → Option Value} {base : Heap} {a : Ad}
def sp_l_size (K : PySem.W.Frag) : Sp := spSizeR K 40

theorem ok_l_size_n (T : Txt K mg a) : ∀ n, FnOk P w K mg base CX0 (n + 1) a.f_l_size a.fd_l_size ["_law_my_term"] (spSizeR K n)
  | 0 => fn_false
  | n + 1 => by
    have G_l_operands := ok_l_operands (P := P) (w := w) (base := base) T
    have G_l_size := ok_l_size_n T n
    refine T.F_l_size.ok sc_l_size (fun vs H Q E h => ?_) (fun cdv A outer s H vs Q E hr h => ?_)
    · obtain ⟨v, t, rfl, _⟩ := h
      rfl
    obtain ⟨v, t, rfl, ht, w⟩ := h
    have ar := ht.ar
    refine ⟨_, (pss_one (ps_ret (pe_op op_add pe_int (pe_callB (cr_sum rfl) (by rfl) T.n_sum (by decide +kernel) (pa_cons (pe_lc (own := [("_law_one", 1)]) (g := gName 1) rfl sc_l_size.nd (pi_list (pe_call G_l_operands (hr.mono (by first | decide | omega)) (by rfl) T.g_l_operands T.F_l_operands.kp T.b_l_operands .nil pass0 (pa_cons (pv 0) pa_nil))) (blkOk_by (own := [("_law_one", 1)]) (N := ["_law_my_term", "_law_one"]) (sc := defScope s_l_size) (by decide +kernel)) (fun _ _ _ _ _ => (pg_name (i := 1) sc_l_size.nd rfl (Or.inl rfl))) (fun _ _ _ _ _ => pts_nil) (fun _ _ _ _ _ => (pe_call G_l_size (hr.mono (by first | decide | omega)) (by rfl) T.g_l_size T.F_l_size.kp T.b_l_size .nil pass0 (pa_cons (pv 1) pa_nil)))) pa_nil))))), ?_⟩
    refine ⟨v, rfl, v, t, n, rfl, ht, fun l H1 xs s1 nl hl hA => ?_⟩
    refine ⟨l, rfl, ⟨_, SqL.of hl⟩, fun D nD => ?_⟩
    have xl : xs.length ≤ 2000 := by rw [hA.1]; exact ar.1
    refine lc_list (K := K) (a := l) (xs := xs) (fun i H2 => Same H1 H2 ∧ H2 D = some (.lst (((t.subs.take i).map fun u => (u.size : Int)).map V.int))) ⟨Same.new nD, upd_same⟩ (fun i H2 _ z => SqL.of (z.1 _ _ hl)) ?_ ?_
    · rintro i x H2 hx ⟨s2, hD⟩
      obtain ⟨u, hu, tu⟩ := hA.at hx
      have il : i < xs.length := (List.getElem?_eq_some_iff.mp hx).1
      refine ⟨rfl, tYes_if ?_⟩
      refine ⟨x, rfl, ?_⟩
      cases n with
      | zero => exact tu.elim
      | succ n =>
        refine ⟨x, u, rfl, tu.same s2, fun H3 s3 => ⟨_, s3 _ _ hD, ?_, fun b o e => ?_, ?_⟩⟩
        · rw [List.length_map, List.length_map, List.length_take]; exact szl (by omega)
        · rw [upd_ne (ne_of_none e nD)]; exact s3 _ _ (s2 _ _ e)
        · rw [upd_same, List.take_add_one, hu, List.map_append, List.map_append]; rfl
    · rintro H2 ⟨s2, hD⟩
      rw [hA.1, List.take_length] at hD
      refine ⟨D, _, rfl, SqL.of hD, 1, _, rfl, rfl, ?_⟩
      have e : (1 : Int) + (t.subs.map fun u => (u.size : Int)).sum = ((t.size : Nat) : Int) := by
        rw [t.size_eq, Rw.sizes_eq]
        have c : ∀ l : List Rw, (l.map fun u => (u.size : Int)).sum = (((l.map Rw.size).sum : Nat) : Int) := by
          intro l
          induction l with
          | nil => rfl
          | cons x l ih => rw [List.map_cons, List.sum_cons, ih, List.map_cons, List.sum_cons]; omega
        rw [c]
        omega
      show Q (.int (1 + (t.subs.map fun u => (u.size : Int)).sum)) H2
      rw [e]
      exact w H2 (s1.trans s2)
theorem ok_l_size (T : Txt K mg a) : FnOk P w K mg base CX0 41 a.f_l_size a.fd_l_size ["_law_my_term"] (sp_l_size K) := ok_l_size_n T 40
end
section
variable {P : Program} {w : World} {K : PySem.W.Frag} {mg : Str → Option Value} {base : Heap} {a : Ad}
def sp_l_shares (K : PySem.W.Frag) : Sp := fun vs H Q _ => ∃ (r : Addr) (q : Nat), vs = [.ref r, .int (q : Nat)] ∧ Rg H r ∧ q ≤ 6 ∧ ∀ l H' xs ws, Kp r H H' → Rg H' r → H' l = some (.lst xs) → l ≠ r → Frs K H' xs ws 40 → ws.length = q → ShW ws → Q (.ref l) H'
theorem sum_pos : ∀ {is : List Int}, (∀ i ∈ is, 1 ≤ i ∧ i ≤ 4) → (is.length : Int) ≤ is.sum ∧ is.sum ≤ 4 * (is.length : Int)
  | [], _ => by simp
  | i :: is, h => by
    have h1 := h i List.mem_cons_self
    have h2 := sum_pos (is := is) fun j hj => h j (List.mem_cons_of_mem _ hj)
    rw [List.sum_cons, List.length_cons]
    omega

theorem ok_l_shares (T : Txt K mg a) : FnOk P w K mg base CX0 2 a.f_l_shares a.fd_l_shares ["_law_rng", "_law_quantity"] (sp_l_shares K) := by
  have G_l_reduce := ok_l_reduce (P := P) (w := w) (base := base) T
  have G_l_draw := ok_l_draw (P := P) (w := w) (base := base) T
  refine T.F_l_shares.ok sc_l_shares (fun vs H Q E h => ?_) (fun cdv A outer s H vs Q E hr h => ?_)
  · obtain ⟨r, q, rfl, _⟩ := h
    rfl
  · obtain ⟨r, q, rfl, R, hq, w⟩ := h
    refine ⟨_, (pss_cons (ps_set (i := 2) sc_l_shares.nd rfl (by first | exact Or.inl rfl | exact Or.inr rfl) (pe_lc (own := [("_law_k", 3)]) (g := gName 3) rfl sc_l_shares.nd (pi_range1 (by rfl) T.n_range (pa_cons (pv 1) pa_nil)) (blkOk_by (own := [("_law_k", 3)]) (N := ["_law_rng", "_law_quantity", "_law_weights", "_law_k", "_law_one"]) (sc := defScope s_l_shares) (by decide +kernel)) (fun _ _ _ _ _ => (pg_name (i := 3) sc_l_shares.nd rfl (Or.inl rfl))) (fun _ _ _ _ _ => pts_nil) (fun _ _ _ _ _ => (pe_op op_add pe_int (pe_call G_l_draw (hr.mono (by first | decide | omega)) (by rfl) T.g_l_draw T.F_l_draw.kp T.b_l_draw .nil pass0 (pa_cons (pv 0) (pa_cons pe_int pa_nil)))))))
          (pss_one (ps_ret (pe_lc (own := [("_law_one", 4)]) (g := gName 4) rfl sc_l_shares.nd (pi_list (pv 2)) (blkOk_by (own := [("_law_one", 4)]) (N := ["_law_rng", "_law_quantity", "_law_weights", "_law_k", "_law_one"]) (sc := defScope s_l_shares) (by decide +kernel)) (fun _ _ _ _ _ => (pg_name (i := 4) sc_l_shares.nd rfl (Or.inl rfl))) (fun _ _ _ _ _ => pts_nil) (fun _ _ _ _ _ => (pe_call G_l_reduce (hr.mono (by first | decide | omega)) (by rfl) T.g_l_reduce T.F_l_reduce.kp T.b_l_reduce .nil pass0 (pa_cons (pv 4) (pa_cons (pe_callB (crSumK (K := K) rfl rfl) (by rfl) T.n_sum (by decide +kernel) (pa_cons (pv 2) pa_nil)) pa_nil)))))))), ?_⟩
    refine ⟨.int (q : Nat), rfl, (q : Int), rfl, by omega, by omega, fun D nD => ?_⟩
    have Dr : D ≠ r := R.ne nD
    refine ⟨fun i m H3 => i + m = q ∧ Kp r H H3 ∧ Rg H3 r ∧ ∃ is : List Int, H3 D = some (.lst (is.map V.int)) ∧ is.length = i ∧ ∀ j ∈ is, 1 ≤ j ∧ j ≤ 4, ⟨q, by omega, Kp.of (Same.new nD), R.same (Same.new nD), [], upd_same, rfl, fun j hj => by cases hj⟩, fun i m H3 hW => ?_⟩
    obtain ⟨em, k3, R3, is, hD, hl, hi⟩ := hW
    by_cases hlt : i < q
    · refine .inr ⟨(show i < ((q : Nat) : Int).toNat by omega), fun H4 => Kp r H H4 ∧ Rg H4 r ∧ ∃ is : List Int, H4 D = some (.lst (is.map V.int)) ∧ is.length = i + 1 ∧ ∀ j ∈ is, 1 ≤ j ∧ j ≤ 4, fun H4 hN => ⟨m - 1, by omega, by omega, hN⟩, fun v H4 hy => ?_⟩
      obtain ⟨rfl, rfl⟩ := hy
      refine ⟨rfl, tYes_if ?_⟩
      refine ⟨.ref r, rfl, r, 4, rfl, R3, by decide, by decide, fun x H5 x0 x1 k5 R5 => ?_⟩
      refine ⟨1, x, rfl, rfl, _, k5.1 _ _ Dr hD, by rw [List.length_map]; exact szl (by omega), (k3.trans k5).put (H := H) nD Dr, R.put nD (k3.trans k5) R5, is ++ [1 + x], ?_, ?_, ?_⟩
      · rw [upd_same, List.map_append]; rfl
      · rw [List.length_append, hl]; rfl
      · intro j hj
        rcases List.mem_append.mp hj with h | h
        · exact hi j h
        · rw [List.mem_singleton.mp h]; omega
    · have ei : i = q := by omega
      subst ei
      refine .inl ⟨(show ((i : Nat) : Int).toNat ≤ i by omega), ?_⟩
      have sp := sum_pos hi
      refine ⟨.ref D, rfl, D, rfl, ⟨_, SqL.of hD⟩, fun L nL => ?_⟩
      have Lr : L ≠ r := R3.ne nL
      refine lc_list (K := K) (a := D) (xs := is.map V.int) (fun j H4 => Same H3 H4 ∧ ∃ xs, H4 L = some (.lst xs) ∧ Frs K H4 xs ((is.take j).map fun z => red z is.sum) 40) ⟨Same.new nL, [], upd_same, Frs.nil'⟩ (fun j H4 _ z => SqL.of (z.1 _ _ hD)) ?_ ?_
      · rintro j y H4 hy ⟨s4, xs, hL, hF⟩
        obtain ⟨z, hz, rfl⟩ : ∃ z, is[j]? = some z ∧ y = V.int z := by
          rw [List.getElem?_map] at hy
          cases e : is[j]? with
          | none => rw [e] at hy; cases hy
          | some z => rw [e] at hy; exact ⟨z, rfl, (Option.some.inj hy).symm⟩
        have zb := hi z (List.mem_of_getElem? hz)
        have jl : j < is.length := (List.getElem?_eq_some_iff.mp hz).1
        have B : (2 : Nat) ^ 40 = 1099511627776 := by decide
        refine ⟨rfl, tYes_if ?_⟩
        refine ⟨.int z, rfl, .ref D, rfl, D, is, rfl, SqL.of (s4 _ _ hD), z, is.sum, rfl, by omega, Nat.lt_of_lt_of_le (show is.sum.natAbs < 2 ^ 40 by omega) (Nat.pow_le_pow_right (by decide) (by decide)), fun p np => ?_⟩
        have sp4 := Same.new (o := .tup [.int (red z is.sum).1, .int (red z is.sum).2]) np
        have fz := red_B (K := K) (H := H4) (p := p) (n := z) (d := is.sum) (B := 40) (by omega) (by omega) (by omega)
        have hL4 := sp4 _ _ hL
        have xl : xs.length = j := by rw [hF.1, List.length_map, List.length_take]; omega
        refine ⟨xs, hL4, by rw [xl]; exact szl (by omega), fun b o e => ?_, xs ++ [.ref p], upd_same, ?_⟩
        · rw [upd_ne (ne_of_none e nL)]; exact sp4 _ _ (s4 _ _ e)
        · rw [tk_more hz]
          exact ((hF.same sp4).app' (Frs.one' fz)).put' hL4
      · rintro H4 ⟨s4, xs, hL, hF⟩
        rw [List.length_map, List.take_length] at hF
        refine w L H4 xs _ (k3.trans (Kp.of s4)) (R3.same s4) hL Lr hF (by rw [List.length_map, hl]) ⟨is, hi, by omega, rfl⟩
end
section
variable {P : Program} {w : World} {K : PySem.W.Frag} {mg : Str → Option Value} {base : Heap} {a : Ad}
def spTerm (K : PySem.W.Frag) : Nat → Sp
  | 0 => fun _ _ _ _ => False
  | n + 1 => fun vs H Q _ => ∃ (r nl : Addr) (ss : List Str) (d : Int), vs = [.ref r, .ref nl, .int d] ∧ Rg H r ∧ nl ≠ r ∧ SqL K H nl (ss.map V.str) ∧ 0 < ss.length ∧ ss.length ≤ 60 ∧ d ≤ (n : Int) + 1 ∧ ∀ v H' t, Kp r H H' → Rg H' r → TmAt K H' (n + 1) v t → Good ss (n + 1) t → Q v H'
def sp_l_term (K : PySem.W.Frag) : Sp := spTerm K 4
/-- terms drawn one by one into the list at D -/
def Drawn1 (K : PySem.W.Frag) (ss : List Str) (n : Nat) (r D : Addr) (H0 : Hp) (i : Nat) (H3 : Hp) : Prop := Kp r H0 H3 ∧ Rg H3 r ∧ ∃ xs ts, H3 D = some (.lst xs) ∧ xs.length = i ∧ All2 (TmAt K H3 n) xs ts ∧ ∀ t ∈ ts, Good ss n t
theorem Drawn1.start {K : PySem.W.Frag} {ss : List Str} {n : Nat} {r D : Addr} {H0 : Hp} (R : Rg H0 r) (nD : H0 D = none) : Drawn1 K ss n r D H0 0 (upd H0 D (.lst [])) :=
  ⟨Kp.of (Same.new nD), R.same (Same.new nD), [], [], upd_same, rfl, All2.nil, fun t h => by cases h⟩
theorem Drawn1.more {K : PySem.W.Frag} {ss : List Str} {n : Nat} {r D : Addr} {H0 H3 H5 : Hp} {i : Nat} {x : V} {t : Tm} (R : Rg H0 r) (nD : H0 D = none) (hi : i < 1000) (h : Drawn1 K ss n r D H0 i H3) (k5 : Kp r H3 H5) (R5 : Rg H5 r) (ht : TmAt K H5 n x t) (hg : Good ss n t) :
    ∃ acc, H5 D = some (.lst acc) ∧ acc.length < sizeLine ∧ Drawn1 K ss n r D H0 (i + 1) (upd H5 D (.lst (acc ++ [x]))) := by
  obtain ⟨k3, R3, xs, ts, hD, hl, hA, hG⟩ := h
  have Dr : D ≠ r := R.ne nD
  have hD5 := k5.1 _ _ Dr hD
  refine ⟨xs, hD5, by rw [hl]; exact szl (by omega), (k3.trans k5).put (H := H0) nD Dr, R.put nD (k3.trans k5) R5, xs ++ [x], ts ++ [t], upd_same, by rw [List.length_append, hl]; rfl, ?_, fun u hu => ?_⟩
  · exact ((hA.mono fun _ _ z => z.kp R3 k5).snoc ht).mono fun _ _ z => z.put hD5
  · rcases List.mem_append.mp hu with z | z
    · exact hG u z
    · rw [List.mem_singleton.mp z]; exact hg

theorem ok_l_term_n (T : Txt K mg a) : ∀ n, FnOk P w K mg base CX0 (n + 4) a.f_l_term a.fd_l_term ["_law_rng", "_law_names_here", "_law_deep"] (spTerm K n)
  | 0 => fn_false
  | n + 1 => by
    have G_l_draw := ok_l_draw (P := P) (w := w) (base := base) T
    have G_l_choice := ok_l_choice (P := P) (w := w) (base := base) T
    have G_l_small := ok_l_small (P := P) (w := w) (base := base) T
    have G_l_shares := ok_l_shares (P := P) (w := w) (base := base) T
    have G_l_term := ok_l_term_n T n
    refine T.F_l_term.ok sc_l_term (fun vs H Q E h => ?_) (fun cdv A outer s H vs Q E hr h => ?_)
    · obtain ⟨r, nl, ss, d, rfl, _⟩ := h
      rfl
    obtain ⟨r, nl, ss, d, rfl, R, nlr, hS, s0, s1, hd, w⟩ := h
    refine ⟨_, (pss_cons (ps_set (i := 3) sc_l_term.nd rfl (by first | exact Or.inl rfl | exact Or.inr rfl) (pe_call G_l_draw (hr.mono (by first | decide | omega)) (by rfl) T.g_l_draw T.F_l_draw.kp T.b_l_draw .nil pass0 (pa_cons (pv 0) (pa_cons pe_int pa_nil))))
      (pss_cons (ps_if (PW.pt (pw_or (pt_cmpR op_lt (pv 2) pe_int (nomark _)) (pw_or1 (pt_cmpR op_eq (pv 3) pe_int (nomark _))))) (pss_one (ps_ret (pe_tup (pa_cons pe_str (pa_cons (pe_call G_l_choice (hr.mono (by first | decide | omega)) (by rfl) T.g_l_choice T.F_l_choice.kp T.b_l_choice .nil pass0 (pa_cons (pv 0) (pa_cons (pv 1) pa_nil))) pa_nil))))) pss_nil)
      (pss_cons (ps_if (pt_cmpR op_lt (pv 3) pe_int (nomark _)) (pss_one (ps_ret (pe_tup (pa_cons pe_str (pa_cons (pe_call G_l_term (hr.mono (by first | decide | omega)) (by rfl) T.g_l_term T.F_l_term.kp T.b_l_term .nil pass0 (pa_cons (pv 0) (pa_cons (pv 1) (pa_cons (pe_op op_sub (pv 2) pe_int) pa_nil)))) (pa_cons (pe_call G_l_small (hr.mono (by first | decide | omega)) (by rfl) T.g_l_small T.F_l_small.kp T.b_l_small .nil pass0 (pa_cons (pv 0) pa_nil)) pa_nil)))))) pss_nil)
      (pss_cons (ps_if (pt_cmpR op_eq (pv 3) pe_int (nomark _)) (pss_one (ps_ret (pe_callTy call_tuple_of (by rfl) T.n_tuple (by decide +kernel) (pa_cons (pe_op op_cat (pe_lst (pa_cons pe_str pa_nil)) (pe_lc (own := [("_law_k", 6)]) (g := gName 6) rfl sc_l_term.nd (pi_range1 (by rfl) T.n_range (pa_cons pe_int pa_nil)) (blkOk_by (own := [("_law_k", 6)]) (N := ["_law_rng", "_law_names_here", "_law_deep", "_law_pick", "_law_quantity", "_law_parts", "_law_k", "_law_share", "_law_one"]) (sc := defScope s_l_term) (by decide +kernel)) (fun _ _ _ _ _ => (pg_name (i := 6) sc_l_term.nd rfl (Or.inl rfl))) (fun _ _ _ _ _ => pts_nil) (fun _ _ _ _ _ => (pe_call G_l_term (hr.mono (by first | decide | omega)) (by rfl) T.g_l_term T.F_l_term.kp T.b_l_term .nil pass0 (pa_cons (pv 0) (pa_cons (pv 1) (pa_cons (pe_op op_sub (pv 2) pe_int) pa_nil))))))) pa_nil)))) pss_nil)
      (pss_cons (ps_set (i := 4) sc_l_term.nd rfl (by first | exact Or.inl rfl | exact Or.inr rfl) (pe_op op_add pe_int (pe_call G_l_draw (hr.mono (by first | decide | omega)) (by rfl) T.g_l_draw T.F_l_draw.kp T.b_l_draw .nil pass0 (pa_cons (pv 0) (pa_cons pe_int pa_nil)))))
      (pss_cons (ps_setLc (i := 5) (own := [("_law_k", 6)]) (g := gName 6) rfl sc_l_term.nd rfl rfl (sw_true rfl rfl rfl (by decide +kernel)) (pi_range1 (by rfl) T.n_range (pa_cons (pv 4) pa_nil)) (blkOk_by (own := [("_law_k", 6)]) (N := ["_law_rng", "_law_names_here", "_law_deep", "_law_pick", "_law_quantity", "_law_parts", "_law_k", "_law_share", "_law_one"]) (sc := defScope s_l_term) (by decide +kernel)) (fun _ _ _ _ _ => (pg_name (i := 6) sc_l_term.nd rfl (Or.inl rfl))) (fun _ _ _ _ _ => pts_nil) (fun _ _ _ _ _ => (pe_call G_l_term (hr.mono (by first | decide | omega)) (by rfl) T.g_l_term T.F_l_term.kp T.b_l_term .nil pass0 (pa_cons (pv 0) (pa_cons (pv 1) (pa_cons (pe_op op_sub (pv 2) pe_int) pa_nil))))))
      (pss_cons (ps_if (pt_cmpR op_eq (pv 3) pe_int (nomark _)) (pss_one (ps_ret (pe_callTy call_tuple_of (by rfl) T.n_tuple (by decide +kernel) (pa_cons (pe_op op_cat (pe_lst (pa_cons pe_str pa_nil)) (pe_lc (own := [("_law_share", 7), ("_law_one", 8)]) (g := gTup K 2 (gCons (gName 7) (gCons (gName 8) gNil))) rfl sc_l_term.nd (RZ.pi_zipA (by rfl) T.n_zip (pa_cons (pe_call G_l_shares (hr.mono (by first | decide | omega)) (by rfl) T.g_l_shares T.F_l_shares.kp T.b_l_shares .nil pass0 (pa_cons (pv 0) (pa_cons (pv 4) pa_nil))) (pa_cons (pv 5) pa_nil))) (blkOk_by (own := [("_law_share", 7), ("_law_one", 8)]) (N := ["_law_rng", "_law_names_here", "_law_deep", "_law_pick", "_law_quantity", "_law_parts", "_law_k", "_law_share", "_law_one"]) (sc := defScope s_l_term) (by decide +kernel)) (fun _ _ _ _ _ => (pg_tup rfl (pgs_cons (pg_name (i := 7) sc_l_term.nd rfl (Or.inl rfl)) (pgs_cons (pg_name (i := 8) sc_l_term.nd rfl (Or.inl rfl)) pgs_nil)))) (fun _ _ _ _ _ => pts_nil) (fun _ _ _ _ _ => (pe_tup (pa_cons (pv 7) (pa_cons (pv 8) pa_nil)))))) pa_nil)))) pss_nil)
      (pss_one (ps_ret (pe_callTy call_tuple_of (by rfl) T.n_tuple (by decide +kernel) (pa_cons (pe_op op_cat (pe_lst (pa_cons (pe_ix ix_list (pe_lst (pa_cons pe_str (pa_cons pe_str (pa_cons pe_str pa_nil)))) (pe_op op_sub (pv 3) pe_int) (fun _ _ => rfl)) pa_nil)) (pv 5)) pa_nil))))))))))), ?_⟩
    refine ⟨.ref r, rfl, r, 9, rfl, R, by decide, by decide, fun pk H1 p0 p1 k1 R1 => ?_⟩
    have hS1 := k1.L nlr hS
    -- an event
    have leaf : ∀ (Q' : VK), (∀ v H', Q v H' → Q' v H') → (tTup (tCons (tC (V.str "event")) (tCons (tCall (sp_l_choice K) [] E0 (tCons (tVar 0) (tCons (tVar 1) tNil))) tNil))) [some (.ref r), some (.ref nl), some (.int d), some (.int pk), none, none, none, none, none] H1 Q' := by
      intro Q' hQ
      refine ⟨.ref r, rfl, .ref nl, rfl, r, .ref nl, _, rfl, R1, .inl ⟨nl, rfl, nlr, .inl hS1⟩, by rw [List.length_map]; exact s0, by rw [List.length_map]; omega, fun x hx H2 k2 R2 => ?_⟩
      obtain ⟨q, hq, rfl⟩ := List.mem_map.mp hx
      refine ⟨sz (by show 2 ≤ 100000; decide), fun p np => hQ _ _ ?_⟩
      have sp := Same.new (o := .tup [.str "event", .str q]) np
      exact w _ _ (.ev q) ((k1.trans k2).trans (Kp.of sp)) (R2.same sp) ⟨p, rfl, SqT.of upd_same⟩ hq
    refine ⟨.int d, rfl, d, 2, rfl, rfl, _, rfl, ite2 (fun e => iteT (leaf _ fun _ _ z => z)) (fun e => ?_)⟩
    have d2 : 2 ≤ d := by
      by_cases z : d < 2
      · exact absurd (decide_eq_true z) e
      · omega
    refine ⟨.int pk, rfl, rfl, _, rfl, ite2 (fun e0 => leaf _ fun _ _ z => z) (fun e0 => ?_)⟩
    cases n with
    | zero => exfalso; omega
    | succ n =>
      have hd1 : d - 1 ≤ (n : Int) + 1 := by omega
      refine ⟨.int pk, rfl, pk, 4, rfl, rfl, _, rfl, ite2 (fun e1 => ?_) (fun e1 => ?_)⟩
      · -- a delay
        refine ⟨.ref r, rfl, .ref nl, rfl, .int d, rfl, d, 1, rfl, rfl, r, nl, ss, d - 1, rfl, R1, nlr, hS1, s0, s1, hd1, fun v2 H2 t2 k2 R2 m2 g2 => ?_⟩
        refine ⟨.ref r, rfl, r, rfl, R2, fun v3 H3 n3 d3 k3 R3 f3 => ⟨sz (by show 3 ≤ 100000; decide), fun p np => ?_⟩⟩
        have sp := Same.new (o := .tup [.str "delay", v2, v3]) np
        refine w _ _ (.nd (.delay (n3, d3)) [t2]) (((k1.trans k2).trans k3).trans (Kp.of sp)) (R3.same sp) ⟨[v2], ⟨p, v2, v3, rfl, rfl, SqT.of upd_same, (f3.up' (by decide)).same sp⟩, All2.one ((m2.kp R2 k3).same sp)⟩ ⟨rfl, fun t ht => ?_⟩
        rw [List.mem_singleton.mp ht]; exact g2
      refine ⟨.int pk, rfl, rfl, _, rfl, ite2 (fun e2 => ?_) (fun e2 => ?_)⟩
      · -- a median
        refine ⟨sz (by show 1 ≤ 100000; decide), fun hl nhl => ?_⟩
        have sh := Same.new (o := .lst [.str "median"]) nhl
        have R1' := R1.same sh
        have hlr : hl ≠ r := R1.ne nhl
        refine ⟨3, rfl, by decide, by decide, fun D nD => ?_⟩
        have hlD : hl ≠ D := ne_of_none upd_same nD
        refine ⟨fun i m H3 => i + m = 3 ∧ Drawn1 K ss (n + 1) r D (upd H1 hl (.lst [.str "median"])) i H3, ⟨3, rfl, Drawn1.start R1' nD⟩, fun i m H3 hW => ?_⟩
        obtain ⟨em, dr⟩ := hW
        by_cases hi : i < 3
        · refine .inr ⟨hi, Drawn1 K ss (n + 1) r D (upd H1 hl (.lst [.str "median"])) (i + 1), fun H4 z => ⟨m - 1, by omega, by omega, z⟩, fun v H4 hy => ?_⟩
          obtain ⟨rfl, rfl⟩ := hy
          refine ⟨rfl, tYes_if ?_⟩
          refine ⟨.ref r, rfl, .ref nl, rfl, .int d, rfl, d, 1, rfl, rfl, r, nl, ss, d - 1, rfl, dr.2.1, nlr, dr.1.L nlr (sh.seq hS1), s0, s1, hd1, fun v5 H5 t5 k5 R5 m5 g5 => ?_⟩
          exact dr.more R1' nD (by omega) k5 R5 m5 g5
        · have ei : i = 3 := by omega
          subst ei
          obtain ⟨k3, R3, xs, ts, hD, hx, hA, hG⟩ := dr
          refine .inl ⟨Nat.le_refl _, ?_⟩
          have hh := k3.1 _ _ hlr (show (upd H1 hl (.lst [.str "median"])) hl = _ from upd_same)
          refine ⟨hl, D, _, _, rfl, rfl, hh, hD, sz (by rw [hx]; show 1 + 3 ≤ 100000; decide), fun c nc => ?_⟩
          have sc := Same.new (o := .lst ([.str "median"] ++ xs)) nc
          refine ⟨c, _, rfl, .inl ⟨SqL.of upd_same, fun p np => ?_⟩⟩
          have sp := sc.trans (Same.new (o := .tup ([.str "median"] ++ xs)) np)
          exact w _ _ (.nd .median ts) (((k1.trans (Kp.of sh)).trans k3).trans (Kp.of sp)) (R3.same sp) ⟨xs, ⟨p, rfl, SqT.of upd_same⟩, hA.mono fun _ _ z => z.same sp⟩ ⟨(show ts.length = 3 by rw [← hA.1, hx]), hG⟩
      -- the parts
      refine ⟨.ref r, rfl, r, 3, rfl, R1, by decide, by decide, fun q H2 q0 q1 k2 R2 => ⟨1, q, rfl, rfl, ?_⟩⟩
      have hS2 := k2.L nlr hS1
      refine ⟨.int (1 + q), rfl, 1 + q, rfl, by omega, by omega, fun D nD => ?_⟩
      have Dr : D ≠ r := R2.ne nD
      refine ⟨fun i m H3 => i + m = (1 + q).toNat ∧ Drawn1 K ss (n + 1) r D H2 i H3, ⟨(1 + q).toNat, by omega, Drawn1.start R2 nD⟩, fun i m H3 hW => ?_⟩
      obtain ⟨em, dr⟩ := hW
      by_cases hi : i < (1 + q).toNat
      · refine .inr ⟨hi, Drawn1 K ss (n + 1) r D H2 (i + 1), fun H4 z => ⟨m - 1, by omega, by omega, z⟩, fun v H4 hy => ?_⟩
        obtain ⟨rfl, rfl⟩ := hy
        refine ⟨rfl, tYes_if ?_⟩
        refine ⟨.ref r, rfl, .ref nl, rfl, .int d, rfl, d, 1, rfl, rfl, r, nl, ss, d - 1, rfl, dr.2.1, nlr, dr.1.L nlr hS2, s0, s1, hd1, fun v5 H5 t5 k5 R5 m5 g5 => ?_⟩
        exact dr.more R2 nD (by omega) k5 R5 m5 g5
      have ei : i = (1 + q).toNat := by omega
      subst ei
      obtain ⟨k3, R3, xs, ts, hD, hx, hA, hG⟩ := dr
      have tl : ts.length = (1 + q).toNat := by rw [← hA.1, hx]
      refine .inl ⟨Nat.le_refl _, ?_⟩
      refine ⟨.int pk, rfl, rfl, _, rfl, ite2 (fun e3 => ?_) (fun e3 => ?_)⟩
      · -- a mix
        refine ⟨sz (by show 1 ≤ 100000; decide), fun hl nhl => ?_⟩
        have sh := Same.new (o := .lst [.str "mix"]) nhl
        have hlr : hl ≠ r := R3.ne nhl
        refine ⟨.ref r, rfl, .int (1 + q), rfl, r, (1 + q).toNat, by rw [show (((1 + q).toNat : Nat) : Int) = 1 + q by omega]; rfl, R3.same sh, by omega, fun sl H4 zs ws k4 R4 hsl slr hF wl sw => ?_⟩
        have k04 := k3.trans ((Kp.of sh).trans k4)
        have hD4 : H4 D = some (.lst xs) := ((Kp.of sh).trans k4).1 _ _ Dr hD
        have hh4 : H4 hl = some (.lst [.str "mix"]) := k4.1 _ _ hlr upd_same
        have hA4 := hA.mono fun _ _ z => (z.same sh).kp (R3.same sh) k4
        have zl : zs.length = xs.length := by rw [hF.1, wl, hx]
        refine ⟨.ref D, rfl, sl, D, zs, xs, rfl, .inl ⟨SqL.of hsl, SqL.of hD4, fun L nL => ?_⟩⟩
        refine ⟨fun i m H5 => i + m = xs.length ∧ Same H4 H5 ∧ ∃ ys, H5 L = some (.lst ys) ∧ ys.length = i ∧ ∀ (j : Nat) y x f, ys[j]? = some y → xs[j]? = some x → ws[j]? = some f → ∃ q wv, y = .ref q ∧ SqT K H5 q [wv, x] ∧ FrB K H5 wv f.1 f.2 40, ⟨xs.length, by omega, Same.new nL, [], upd_same, rfl, fun j y x f z => by cases z⟩, fun i m H5 hW => ?_⟩
        obtain ⟨em5, s5, ys, hL, hyl, hys⟩ := hW
        by_cases hi5 : i < xs.length
        · refine .inr ⟨⟨zs, xs, zs[i]'(by omega), xs[i], SqL.of (s5 _ _ hsl), SqL.of (s5 _ _ hD4), List.getElem?_eq_getElem _, List.getElem?_eq_getElem hi5⟩, fun H6 => Same H4 H6 ∧ ∃ ys, H6 L = some (.lst ys) ∧ ys.length = i + 1 ∧ ∀ (j : Nat) y x f, ys[j]? = some y → xs[j]? = some x → ws[j]? = some f → ∃ q wv, y = .ref q ∧ SqT K H6 q [wv, x] ∧ FrB K H6 wv f.1 f.2 40, fun H6 hN => ⟨m - 1, by omega, by omega, hN⟩, fun v H6 hy => ?_⟩
          obtain ⟨tt, u1, u2, rfl, nT, rfl, f1, f2⟩ := hy
          have hu1 := f1 _ (SqL.of (s5 _ _ hsl))
          have hu2 := f2 _ (SqL.of (s5 _ _ hD4))
          refine ⟨tt, [u1, u2], rfl, SqT.of upd_same, rfl, u1, [u2], rfl, u2, [], rfl, rfl, rfl, tYes_if ?_⟩
          refine ⟨u1, rfl, u2, rfl, sz (by show 2 ≤ 100000; decide), fun pr npr => ?_⟩
          have s6 := (Same.new (o := .tup [u1, u2]) nT).trans (Same.new (o := .tup [u1, u2]) npr)
          have hL6 := s6 _ _ hL
          refine ⟨ys, hL6, by rw [hyl]; exact szl (by omega), fun b o z => ?_, ys ++ [.ref pr], upd_same, by rw [List.length_append, hyl]; rfl, ?_⟩
          · rw [upd_ne (ne_of_none z nL)]; exact s6 _ _ (s5 _ _ z)
          · intro j y x f hy hx' hf
            have putT : ∀ {q xs}, SqT K (upd (upd H5 tt (.tup [u1, u2])) pr (.tup [u1, u2])) q xs → SqT K (upd (upd (upd H5 tt (.tup [u1, u2])) pr (.tup [u1, u2])) L (.lst (ys ++ [.ref pr]))) q xs := fun {q xs} z => by
              rcases z with (z | ⟨o, z⟩) | z
              · exact .inl (.inl (by rw [upd_ne (ne_of z hL6 (fun y => by cases y))]; exact z))
              · exact .inl (.inr ⟨o, by rw [upd_ne (ne_of z hL6 (fun y => by cases y))]; exact z⟩)
              · exact .inr z
            by_cases hj : j < ys.length
            · rw [List.getElem?_append_left hj] at hy
              obtain ⟨q, wv, e, h1, h2⟩ := hys j y x f hy hx' hf
              exact ⟨q, wv, e, putT (Same.T s6 h1), (h2.same s6).put' hL6⟩
            · have ej : j = i := by
                have := (List.getElem?_eq_some_iff.mp hy).1
                rw [List.length_append] at this
                have : j < ys.length + 1 := this
                omega
              subst ej
              rw [List.getElem?_append_right (by omega), show j - ys.length = 0 by omega] at hy
              cases hy
              rw [hu2] at hx'
              cases hx'
              exact ⟨pr, u1, rfl, putT (SqT.of upd_same), (((hF.2 j u1 f hu1 hf).same s5).same s6).put' hL6⟩
        · have e5 : i = xs.length := by omega
          refine .inl ⟨⟨zs, xs, SqL.of (s5 _ _ hsl), SqL.of (s5 _ _ hD4), .inr (by omega)⟩, ?_⟩
          refine ⟨hl, L, _, _, rfl, rfl, s5 _ _ hh4, hL, sz (by rw [hyl]; show 1 + i ≤ 100000; omega), fun c nc => ?_⟩
          have sc := Same.new (o := .lst ([.str "mix"] ++ ys)) nc
          refine ⟨c, _, rfl, .inl ⟨SqL.of upd_same, fun p np => ?_⟩⟩
          have sp := sc.trans (Same.new (o := .tup ([.str "mix"] ++ ys)) np)
          refine w _ _ (.nd (.mix ws) ts) ((((k1.trans k2).trans k04).trans (Kp.of s5)).trans (Kp.of sp)) ((R4.same s5).same sp) ⟨xs, ⟨p, ys, rfl, SqT.of upd_same, by omega, by rw [wl, hx], fun j y x f a b c => ?_⟩, hA4.mono fun _ _ z => (z.same s5).same sp⟩ ⟨⟨by omega, by omega, by omega, sw⟩, hG⟩
          obtain ⟨q', wv, e', h1, h2⟩ := hys j y x f a b c
          exact ⟨q', wv, e', Same.T sp h1, h2.same sp⟩
      · -- a max or a min
        have pk1 : 4 ≤ pk := by
          by_cases z : pk < 4
          · exact absurd (decide_eq_true z) e1
          · omega
        have pk2 : pk ≠ 8 := fun z => e2 (decide_eq_true (by rw [z]))
        have pk3 : pk ≠ 7 := fun z => e3 (decide_eq_true (by rw [z]))
        refine ⟨sz (by show 3 ≤ 100000; decide), fun ml nml => ?_⟩
        have sm := Same.new (o := .lst [.str "max", .str "min", .str "max"]) nml
        obtain ⟨x, hx0, hxm⟩ := at_int (xs := [V.str "max", V.str "min", V.str "max"]) (i := pk - 4) (by omega) (by show pk - 4 < 3; omega)
        refine ⟨.int pk, rfl, pk, 4, rfl, rfl, ml, _, pk - 4, x, rfl, rfl, SqL.of upd_same, hx0, sz (by show 1 ≤ 100000; decide), fun hl nhl => ?_⟩
        have sh := sm.trans (Same.new (o := .lst [x]) nhl)
        have hhl : (upd (upd H3 ml (.lst [.str "max", .str "min", .str "max"])) hl (.lst [x])) hl = _ := upd_same
        refine ⟨.ref D, rfl, hl, D, _, _, rfl, rfl, hhl, sh _ _ hD, sz (by rw [hx]; show 1 + (1 + q).toNat ≤ 100000; omega), fun c nc => ?_⟩
        have sc := sh.trans (Same.new (o := .lst ([x] ++ xs)) nc)
        refine ⟨c, _, rfl, .inl ⟨SqL.of upd_same, fun p np => ?_⟩⟩
        have sp := sc.trans (Same.new (o := .tup ([x] ++ xs)) np)
        have kk := ((k1.trans k2).trans k3).trans (Kp.of sp)
        have hA' := hA.mono fun _ _ z => z.same sp
        have go : x = .str "max" ∨ x = .str "min" := by
          simp only [List.mem_cons, List.not_mem_nil, or_false] at hxm
          rcases hxm with h | h | h
          · exact .inl h
          · exact .inr h
          · exact .inl h
        rcases go with rfl | rfl
        · exact w _ _ (.nd .max ts) kk (R3.same sp) ⟨xs, ⟨p, rfl, SqT.of upd_same⟩, hA'⟩ ⟨⟨by omega, by omega⟩, hG⟩
        · exact w _ _ (.nd .min ts) kk (R3.same sp) ⟨xs, ⟨p, rfl, SqT.of upd_same⟩, hA'⟩ ⟨⟨by omega, by omega⟩, hG⟩
theorem ok_l_term (T : Txt K mg a) : FnOk P w K mg base CX0 8 a.f_l_term a.fd_l_term ["_law_rng", "_law_names_here", "_law_deep"] (sp_l_term K) := ok_l_term_n T 4
end
section
variable {P : Program} {w : World} {K : PySem.W.Frag} {mg : Str → Option Value} {base : Heap} {a : Ad}
def sp_l_format_fraction (K : PySem.W.Frag) : Sp := fun vs H Q _ => ∃ (v : V) (n d : Int), vs = [v] ∧ Fr K H v n d ∧ n.natAbs < 2 ^ 1000 ∧ d.natAbs < 2 ^ 1000 ∧ Q (.str (SX.S (fmtL (n, d)))) H
theorem lg_ltL {i : Int} (h : i.natAbs < 2 ^ 1000) : i.natAbs.log2 < 1920 := Nat.lt_of_lt_of_le (PySem.Flt.log2_lt_of (by decide) h) (by decide)
theorem txt_lenL {i : Int} (h : i.natAbs < 2 ^ 1000) : (Str.ofString (toString i)).length ≤ 1001 := by rw [PySem.ofString_length]; exact PySem.int_text_length_le (by decide) (PySem.Flt.log2_lt_of (by decide) h)

theorem ok_l_format_fraction (T : Txt K mg a) : FnOk P w K mg base CX0 1 a.f_l_format_fraction a.fd_l_format_fraction ["_law_x"] (sp_l_format_fraction K) := by
  refine T.F_l_format_fraction.ok sc_l_format_fraction (fun vs H Q E h => ?_) (fun cdv A outer s H vs Q E hr h => ?_)
  · obtain ⟨v, n, d, rfl, _⟩ := h
    rfl
  · obtain ⟨v, n, d, rfl, ⟨p, rfl, hp⟩, hn, hd, w⟩ := h
    refine ⟨_, (pss_one (ps_ret (pe_op op_add_str (pe_callTy call_str_int (by rfl) T.n_str (by decide +kernel) (pa_cons (pe_ix ix_tup (pv 0) pe_int (fun _ _ => rfl)) pa_nil)) (pe_ifExp (pt_cmpR op_eq (pe_ix ix_tup (pv 0) pe_int (fun _ _ => rfl)) pe_int (nomark _)) pe_str (pe_op op_add_str pe_str (pe_callTy call_str_int (by rfl) T.n_str (by decide +kernel) (pa_cons (pe_ix ix_tup (pv 0) pe_int (fun _ _ => rfl)) pa_nil))))))), ?_⟩
    have tn := txt_lenL hn
    have td := txt_lenL hd
    refine ⟨.ref p, rfl, p, _, 0, _, rfl, rfl, hp, rfl, n, rfl, lg_ltL hn, .ref p, rfl, p, _, 1, _, rfl, rfl, hp, rfl, rfl, _, rfl, ite2 (fun e => ?_) (fun e => ?_)⟩
    · have e' : d = 1 := V.int.inj (of_decide_eq_true e)
      have l0 : ("" : Str).length = 0 := by decide +kernel
      refine ⟨_, _, rfl, rfl, sz (by omega), ?_⟩
      unfold fmtL at w
      rw [if_pos e', ← S_int] at w
      have z : Str.ofString (toString n) ++ ("" : Str) = Str.ofString (toString n) := TL.ext_tl (by rw [TL.tl_append]; exact List.append_nil _)
      show Q (.str (Str.ofString (toString n) ++ ("" : Str))) H
      rw [z]
      exact w
    · have e' : ¬ d = 1 := fun z => e (decide_eq_true (by rw [z]))
      have l1 : ("/" : Str).length = 1 := by decide +kernel
      refine ⟨.ref p, rfl, p, _, 1, _, rfl, rfl, hp, rfl, d, rfl, lg_ltL hd, _, _, rfl, rfl, sz (by omega), _, _, rfl, rfl, sz (by rw [Str.length_append]; omega), ?_⟩
      unfold fmtL at w
      rw [if_neg e'] at w
      have z : Str.ofString (toString n) ++ (("/" : Str) ++ Str.ofString (toString d)) = SX.S (sgnL n ++ 47 :: sgnL d) := by
        rw [S_int, S_int, slash_S, SX.S_cat, SX.S_cat]
        rfl
      show Q (.str (Str.ofString (toString n) ++ (("/" : Str) ++ Str.ofString (toString d)))) H
      rw [z]
      exact w
end
section
variable {P : Program} {w : World} {K : PySem.W.Frag} {mg : Str → Option Value} {base : Heap} {a : Ad}
def sp_l_format_term (K : PySem.W.Frag) : Sp := spFmt K 10

theorem ok_l_format_term_n (T : Txt K mg a) : ∀ n, FnOk P w K mg base CX0 (n + 3) a.f_l_format_term a.fd_l_format_term ["_law_my_term"] (spFmt K n)
  | 0 => fn_false
  | n + 1 => by
    have G_l_format_fraction := ok_l_format_fraction (P := P) (w := w) (base := base) T
    have G_l_abs := ok_l_abs (P := P) (w := w) (base := base) T
    have G_l_format_term := ok_l_format_term_n T n
    refine T.F_l_format_term.ok sc_l_format_term (fun vs H Q E h => ?_) (fun cdv A outer s H vs Q E hr h => ?_)
    · obtain ⟨v, t, rfl, _⟩ := h
      rfl
    obtain ⟨v, t, rfl, ht, hT, hz, w⟩ := h
    have bd := txt_bdF hT ht.arw
    refine ⟨_, (pss_cons (ps_if (pt_cmpR op_eq (pe_ix ix_tup (pv 0) pe_int (fun _ _ => rfl)) pe_str (nomark _)) (pss_one (ps_ret (pe_ix ix_tup (pv 0) pe_int (fun _ _ => rfl)))) pss_nil)
      (pss_cons (ps_if (pt_cmpR op_eq (pe_ix ix_tup (pv 0) pe_int (fun _ _ => rfl)) pe_str (nomark _)) (pss_cons (ps_set (i := 1) sc_l_format_term.nd rfl (by first | exact Or.inl rfl | exact Or.inr rfl) (pe_ifExp (pt_cmpR op_lt (pe_ix ix_tup (pe_ix ix_tup (pv 0) pe_int (fun _ _ => rfl)) pe_int (fun _ _ => rfl)) pe_int (nomark _)) pe_str pe_str))
      (pss_one (ps_ret (pe_op op_add_str (pe_op op_add_str (pe_call G_l_format_term (hr.mono (by first | decide | omega)) (by rfl) T.g_l_format_term T.F_l_format_term.kp T.b_l_format_term .nil pass0 (pa_cons (pe_ix ix_tup (pv 0) pe_int (fun _ _ => rfl)) pa_nil)) (pv 1)) (pe_call G_l_format_fraction (hr.mono (by first | decide | omega)) (by rfl) T.g_l_format_fraction T.F_l_format_fraction.kp T.b_l_format_fraction .nil pass0 (pa_cons (pe_call G_l_abs (hr.mono (by first | decide | omega)) (by rfl) T.g_l_abs T.F_l_abs.kp T.b_l_abs .nil pass0 (pa_cons (pe_ix ix_tup (pv 0) pe_int (fun _ _ => rfl)) pa_nil)) pa_nil)))))) pss_nil)
      (pss_cons (ps_if (pt_cmpR op_eq (pe_ix ix_tup (pv 0) pe_int (fun _ _ => rfl)) pe_str (nomark _)) (pss_one (ps_setLc (i := 2) (own := [("_law_share", 3), ("_law_one", 4)]) (g := gTup K 2 (gCons (gName 3) (gCons (gName 4) gNil))) rfl sc_l_format_term.nd rfl rfl (sw_true rfl rfl rfl (by decide +kernel)) (pi_tup (pe_slice sl_tup (pv 0) (po_some pe_int) po_none)) (blkOk_by (own := [("_law_share", 3), ("_law_one", 4)]) (N := ["_law_my_term", "_law_sign", "_law_rows", "_law_share", "_law_one"]) (sc := defScope s_l_format_term) (by decide +kernel)) (fun _ _ _ _ _ => (pg_tup rfl (pgs_cons (pg_name (i := 3) sc_l_format_term.nd rfl (Or.inl rfl)) (pgs_cons (pg_name (i := 4) sc_l_format_term.nd rfl (Or.inl rfl)) pgs_nil)))) (fun _ _ _ _ _ => pts_nil) (fun _ _ _ _ _ => (pe_op op_add_str (pe_op op_add_str (pe_call G_l_format_fraction (hr.mono (by first | decide | omega)) (by rfl) T.g_l_format_fraction T.F_l_format_fraction.kp T.b_l_format_fraction .nil pass0 (pa_cons (pv 3) pa_nil)) pe_str) (pe_call G_l_format_term (hr.mono (by first | decide | omega)) (by rfl) T.g_l_format_term T.F_l_format_term.kp T.b_l_format_term .nil pass0 (pa_cons (pv 4) pa_nil)))))) (pss_one (ps_setLc (i := 2) (own := [("_law_one", 4)]) (g := gName 4) rfl sc_l_format_term.nd rfl rfl (sw_true rfl rfl rfl (by decide +kernel)) (pi_tup (pe_slice sl_tup (pv 0) (po_some pe_int) po_none)) (blkOk_by (own := [("_law_one", 4)]) (N := ["_law_my_term", "_law_sign", "_law_rows", "_law_share", "_law_one"]) (sc := defScope s_l_format_term) (by decide +kernel)) (fun _ _ _ _ _ => (pg_name (i := 4) sc_l_format_term.nd rfl (Or.inl rfl))) (fun _ _ _ _ _ => pts_nil) (fun _ _ _ _ _ => (pe_call G_l_format_term (hr.mono (by first | decide | omega)) (by rfl) T.g_l_format_term T.F_l_format_term.kp T.b_l_format_term .nil pass0 (pa_cons (pv 4) pa_nil))))))
      (pss_one (ps_ret (pe_op op_add_str (pe_op op_add_str (pe_op op_add_str (pe_ix ix_tup (pv 0) pe_int (fun _ _ => rfl)) pe_str) (pe_join pe_str (pv 2))) pe_str)))))), ?_⟩
    obtain ⟨k, ts⟩ := t
    have haT : ∀ u ∈ ts, Arw n u := ht.arw.2
    obtain ⟨l60, xs, hN, hA⟩ := ht
    have hlen := hA.1
    obtain ⟨hf, hs⟩ := hT
    rw [Rw.txt_eq] at w bd
    have subs : ∀ {i : Nat} {u : Rw}, ts[i]? = some u → Fm n u ∧ u.size ≤ 400 := fun hu => ⟨hs _ (List.mem_of_getElem? hu), by
      have := sizes_at hu
      rw [Rw.size] at hz
      omega⟩
    -- one operand
    have one : ∀ {x : V} {u : Rw} {i : Nat} {H1 : Hp} {Q1 : VK} {E1 : XK}, ts[i]? = some u → RwAt K H1 n x u → (∀ H', Same H1 H' → Q1 (.str (SX.S u.txt)) H') → spFmt K n [x] H1 Q1 E1 := by
      intro x u i H1 Q1 E1 hu hx hw
      obtain ⟨h1, h2⟩ := subs hu
      cases n with
      | zero => exact hx.elim
      | succ n => exact ⟨x, u, rfl, hx, h1, h2, hw⟩
    match k, hN, hf, w, bd with
    | .ev ss, ⟨ex, _, _, p, e, hp⟩, hf, w, bd =>
      subst e ex
      obtain ⟨s, es, _⟩ := hf
      subst es
      refine ⟨.ref p, rfl, p, _, 0, _, rfl, rfl, hp, atI_nat (j := 0) rfl, rfl, _, rfl, ifT (decide_eq_true rfl) ?_⟩
      refine ⟨.ref p, rfl, p, _, 1, _, rfl, rfl, hp, rfl, ?_⟩
      have z := w H (Same.refl H)
      have e : SX.S (txtK (.ev [s]) (ts.map Rw.txt)) = s := by
        show SX.S ([s].map TL.tl).flatten = s
        rw [show ([s].map TL.tl).flatten = TL.tl s by simp, SX.S_tl]
      rw [e] at z
      exact z
    | .dl none, _, hf, w, bd => exact hf.elim
    | .dl (some f), ⟨p, x, fv, ex, e, hp, fw⟩, hf, w, bd =>
      subst e ex
      obtain ⟨u, rfl⟩ : ∃ u, ts = [u] := List.length_eq_one_iff.mp hlen.symm
      have hx := hA.2 0 x u rfl rfl
      have hf' : Fin f := hf
      refine ⟨.ref p, rfl, p, _, 0, _, rfl, rfl, hp, atI_nat (j := 0) rfl, rfl, _, rfl, ifF (str_no (by decide +kernel)) ⟨.ref p, rfl, p, _, 0, _, rfl, rfl, hp, atI_nat (j := 0) rfl, rfl, _, rfl, ifT (decide_eq_true rfl) ?_⟩⟩
      have mS : (" - " : Str) = SX.S [32, 45, 32] := TL.ext_tl (by decide +kernel)
      have pS : (" + " : Str) = SX.S [32, 43, 32] := TL.ext_tl (by decide +kernel)
      obtain ⟨fp, rfl, hfp⟩ := fw.fr
      have F := hf'
      refine go_seq (go_asg ?_)
      refine both (te := tIf _ _ _) (fun sv H' => H' = H ∧ ∃ (sg : List Nat), sv = .str (SX.S sg) ∧ sg.length = 3 ∧ dlyL f = sg ++ fmtL (if f.1 < 0 then -f.1 else f.1, f.2)) (fun sv H3 h3 => ?_) (fun Q' hQ => ?_)
      rotate_left
      · refine ⟨.ref p, rfl, p, _, 2, _, rfl, rfl, hp, rfl, fp, _, 0, _, rfl, rfl, hfp, rfl, f.1, 0, rfl, rfl, _, rfl, ite2 (fun e => ?_) (fun e => ?_)⟩
        · have e' : f.1 < 0 := of_decide_eq_true e
          exact hQ _ _ ⟨rfl, [32, 45, 32], by rw [mS], rfl, by rw [if_pos e']; exact if_pos e'⟩
        · have e' : ¬ f.1 < 0 := fun z => e (decide_eq_true z)
          exact hQ _ _ ⟨rfl, [32, 43, 32], by rw [pS], rfl, by rw [if_neg e']; exact if_neg e'⟩
      obtain ⟨rfl, sg, rfl, sgl, hd⟩ := h3
      have F' : Fin (if f.1 < 0 then -f.1 else f.1, f.2) := by
        split
        · exact F.neg
        · exact F
      refine ⟨.ref p, rfl, p, _, 1, _, rfl, rfl, hp, rfl, one (i := 0) rfl hx fun H1 s1 => ?_⟩
      have e : txtK (.dl (some f)) ([u].map Rw.txt) = u.txt ++ dlyL f := by
        show ([u].map Rw.txt).flatten ++ dlyL f = _
        rw [show ([u].map Rw.txt).flatten = u.txt by simp]
      rw [e] at w bd
      rw [List.length_append] at bd
      have dl := congrArg List.length hd
      rw [List.length_append] at dl
      refine ⟨_, rfl, _, _, rfl, rfl, sz (by rw [S_len', S_len']; omega), .ref p, rfl, p, _, 2, _, rfl, rfl, Same.T s1 hp, rfl, .ref fp, f.1, f.2, rfl, ⟨fp, rfl, Same.T s1 hfp⟩, fun q nq => ?_⟩
      have s2 := Same.new (o := .tup [.int (if f.1 < 0 then -f.1 else f.1), .int f.2]) nq
      refine ⟨.ref q, _, _, rfl, ⟨q, rfl, SqT.of upd_same⟩, F'.b1, F'.b2, ?_⟩
      have z := w _ (s1.trans s2)
      rw [hd, ← List.append_assoc, ← SX.S_cat, ← SX.S_cat] at z
      exact ⟨_, _, rfl, rfl, sz (by rw [Str.length_append, S_len', S_len', S_len']; omega), z⟩
    | .mx ws, ⟨p, ys, e, hp, l1, l2, hm⟩, hf, w, bd =>
      subst e
      refine ⟨.ref p, rfl, p, _, 0, _, rfl, rfl, hp, atI_nat (j := 0) rfl, rfl, _, rfl, ifF (str_no (by decide +kernel)) ⟨.ref p, rfl, p, _, 0, _, rfl, rfl, hp, atI_nat (j := 0) rfl, rfl, _, rfl, ifF (str_no (by decide +kernel)) ⟨.ref p, rfl, p, _, 0, _, rfl, rfl, hp, atI_nat (j := 0) rfl, rfl, _, rfl, ifT (decide_eq_true rfl) ?_⟩⟩⟩
      have hw : ∀ w ∈ ws, Fin w := hf
      have opb := ops_ofW hw hs haT
      refine ⟨.ref p, rfl, 1, rfl, p, _, rfl, hp, not_whole _ _, fun c nc => ?_⟩
      rw [cut_one]
      have sc := Same.new (o := .tup ys) nc
      refine ⟨c, rfl, ⟨_, SqT.of upd_same⟩, fun D nD => ?_⟩
      refine lc_tup (K := K) (a := c) (xs := ys) (fun i H1 => Same (upd H c (.tup ys)) H1 ∧ H1 D = some (.lst ((((ws.zip ts).take i).map fun o => SX.S (opL true o)).map V.str))) ⟨Same.new nD, upd_same⟩ (fun i H1 _ h1 => SqT.of (h1.1 _ _ upd_same)) ?_ ?_
      · rintro i y H1 hy ⟨s1, hD⟩
        have il : i < ys.length := (List.getElem?_eq_some_iff.mp hy).1
        have hx : xs[i]? = some (xs[i]'(by omega)) := List.getElem?_eq_getElem _
        obtain ⟨f, hf⟩ : ∃ f, ws[i]? = some f := ⟨_, List.getElem?_eq_getElem (show i < ws.length by omega)⟩
        obtain ⟨u, hu, tu⟩ := hA.at hx
        obtain ⟨q, wv, rfl, hq, fw⟩ := hm i y _ _ hy hx hf
        have sA := sc.trans s1
        have F := hw _ (List.mem_of_getElem? hf)
        have fl : (fmtL (f.1, f.2)).length ≤ 63 := fin_len F
        have bu := txt_bdF (hs _ (List.mem_of_getElem? hu)) (haT _ (List.mem_of_getElem? hu))
        have us := (subs hu).2
        refine ⟨q, _, rfl, Same.T sA hq, rfl, _, _, rfl, _, _, rfl, rfl, rfl, tYes_if ?_⟩
        refine ⟨wv, rfl, wv, _, _, rfl, (fw.same sA).fr, F.b1, F.b2, _, _, rfl, rfl, sz (by rw [S_len', blank_S, S_len']; show _ + 1 ≤ _; omega), ?_⟩
        refine ⟨_, rfl, one hu (tu.same sA) fun H2 s2 => ⟨_, _, rfl, rfl, sz (by rw [Str.length_append, S_len', S_len', blank_S, S_len']; show _ + 1 + _ ≤ _; omega), _, s2 _ _ hD, ?_, fun b o e => ?_, ?_⟩⟩
        · rw [List.length_map, List.length_map, List.length_take, List.length_zip]; exact szl (by omega)
        · rw [upd_ne (ne_of_none e nD)]; exact s2 _ _ (s1 _ _ e)
        · have hz' : (ws.zip ts)[i]? = some (f, u) := by rw [List.getElem?_zip_eq_some]; exact ⟨hf, hu⟩
          rw [upd_same, List.take_add_one, hz', List.map_append, List.map_append]
          have e3 : SX.S (fmtL (f.1, f.2)) ++ (" " : Str) ++ SX.S u.txt = SX.S (opL true (f, u)) := by
            rw [blank_S, SX.S_cat, SX.S_cat, List.append_assoc]
            rfl
          rw [e3]
          rfl
      · rintro H1 ⟨s1, hD⟩
        have zl : (ws.zip ts).length = ys.length := by rw [List.length_zip]; omega
        rw [← zl, List.take_length] at hD
        have sl := sum_lens true _ opb
        have jl := joinL_len true _ opb
        have z2 : (ws.zip ts).map (·.2) = ts := List.map_snd_zip (by omega)
        rw [z2] at sl jl
        have sz4 : Rw.sizes ts ≤ 400 := by rw [Rw.size] at hz; omega
        have z := w H1 (sc.trans s1)
        have e2 : txtK (.mx ws) (ts.map Rw.txt) = TL.tl ("mix" : Str) ++ 40 :: (TL.joinL [44, 32] ((ws.zip ts).map (opL true)) ++ [41]) := by
          show [109, 105, 120] ++ 40 :: (TL.joinL [44, 32] (List.zipWith (fun w x => fmtL w ++ 32 :: x) ws (ts.map Rw.txt)) ++ [41]) = _
          rw [zip_opL, mix_S]
        rw [e2, ← end_ops] at z
        have lm : ("mix" : Str).length = 3 := by decide +kernel
        have lo : ("(" : Str).length = 1 := by decide +kernel
        have lc : (")" : Str).length = 1 := by decide +kernel
        have l2 : (", " : Str).length = 2 := by decide +kernel
        have lj : (Txt.join ", " ((ws.zip ts).map fun o => SX.S (opL true o))).length ≤ 80000 := by rw [join_ops, S_len']; omega
        refine ⟨.ref p, rfl, p, _, 0, _, rfl, rfl, Same.T (sc.trans s1) hp, atI_nat (j := 0) rfl, _, _, rfl, rfl, sz (by omega), ⟨_, rfl⟩, .ref D, rfl, _, D, _, rfl, rfl, .inl (SqL.of hD), ?_, _, _, rfl, rfl, sz (by rw [Str.length_append]; omega), _, _, rfl, rfl, sz (by rw [Str.length_append, Str.length_append]; omega), z⟩
        rw [l2, List.length_map]
        omega
    | .nn kk, ⟨n1, n2, n3, p, e, hp⟩, hf, w, bd =>
      subst e
      refine ⟨.ref p, rfl, p, _, 0, _, rfl, rfl, hp, atI_nat (j := 0) rfl, rfl, _, rfl, ifF (decide_eq_false fun y => n1 (V.str.inj y)) ⟨.ref p, rfl, p, _, 0, _, rfl, rfl, hp, atI_nat (j := 0) rfl, rfl, _, rfl, ifF (decide_eq_false fun y => n2 (V.str.inj y)) ⟨.ref p, rfl, p, _, 0, _, rfl, rfl, hp, atI_nat (j := 0) rfl, rfl, _, rfl, ifF (decide_eq_false fun y => n3 (V.str.inj y)) ?_⟩⟩⟩
      refine ⟨.ref p, rfl, 1, rfl, p, _, rfl, hp, not_whole _ _, fun c nc => ?_⟩
      rw [cut_one]
      have opb := ops_of hs haT
      have kl : kk.length ≤ 6 := hf
      have sc := Same.new (o := .tup xs) nc
      refine ⟨c, rfl, ⟨_, SqT.of upd_same⟩, fun D nD => ?_⟩
      refine lc_tup (K := K) (a := c) (xs := xs) (fun i H1 => Same (upd H c (.tup xs)) H1 ∧ H1 D = some (.lst ((((ts.map fun t => (((0, 1) : QQ), t)).take i).map fun o => SX.S (opL false o)).map V.str))) ⟨Same.new nD, upd_same⟩ (fun i H1 _ h1 => SqT.of (h1.1 _ _ upd_same)) ?_ ?_
      · rintro i x H1 hx ⟨s1, hD⟩
        have il : i < xs.length := (List.getElem?_eq_some_iff.mp hx).1
        obtain ⟨u, hu, tu⟩ := hA.at hx
        refine ⟨rfl, tYes_if ⟨x, rfl, one hu (tu.same (sc.trans s1)) fun H2 s2 => ⟨_, s2 _ _ hD, ?_, fun b o e => ?_, ?_⟩⟩⟩
        · rw [List.length_map, List.length_map, List.length_take, List.length_map]; exact szl (by omega)
        · rw [upd_ne (ne_of_none e nD)]; exact s2 _ _ (s1 _ _ e)
        · rw [upd_same, List.take_add_one, List.getElem?_map, hu, List.map_append, List.map_append]
          rfl
      · rintro H1 ⟨s1, hD⟩
        rw [show xs.length = (ts.map fun t => (((0, 1) : QQ), t)).length by rw [List.length_map]; exact hlen, List.take_length] at hD
        have sl := sum_lens false _ opb
        have jl := joinL_len false _ opb
        rw [map_op2] at sl jl
        have sz4 : Rw.sizes ts ≤ 400 := by rw [Rw.size] at hz; omega
        have z := w H1 (sc.trans s1)
        have e2 : txtK (.nn kk) (ts.map Rw.txt) = TL.tl kk ++ 40 :: (TL.joinL [44, 32] ((ts.map fun t => (((0, 1) : QQ), t)).map (opL false)) ++ [41]) := by
          show TL.tl kk ++ 40 :: (TL.joinL [44, 32] (ts.map Rw.txt) ++ [41]) = _
          rw [map_op]
        rw [e2, ← end_ops] at z
        have lo : ("(" : Str).length = 1 := by decide +kernel
        have lc : (")" : Str).length = 1 := by decide +kernel
        have l2 : (", " : Str).length = 2 := by decide +kernel
        have lj : (Txt.join ", " ((ts.map fun t => (((0, 1) : QQ), t)).map fun o => SX.S (opL false o))).length ≤ 80000 := by rw [join_ops, S_len']; omega
        refine ⟨.ref p, rfl, p, _, 0, _, rfl, rfl, Same.T (sc.trans s1) hp, atI_nat (j := 0) rfl, _, _, rfl, rfl, sz (by omega), ⟨_, rfl⟩, .ref D, rfl, _, D, _, rfl, rfl, .inl (SqL.of hD), ?_, _, _, rfl, rfl, sz (by rw [Str.length_append]; omega), _, _, rfl, rfl, sz (by rw [Str.length_append, Str.length_append]; omega), z⟩
        rw [l2, List.length_map]
        omega
theorem ok_l_format_term (T : Txt K mg a) : FnOk P w K mg base CX0 13 a.f_l_format_term a.fd_l_format_term ["_law_my_term"] (sp_l_format_term K) := ok_l_format_term_n T 10
end
section
variable {P : Program} {w : World} {K : PySem.W.Frag} {mg : Str → Option Value} {base : Heap} {a : Ad}
def sp_l_is_valid_fraction (K : PySem.W.Frag) : Sp := fun vs H Q _ => ∃ (v : V) (f : QQ), vs = [v] ∧ FrW K H v f ∧ ∀ H', Same H H' → Q (.bl (fracB f)) H'

theorem ok_l_is_valid_fraction (T : Txt K mg a) : FnOk P w K mg base CX0 2 a.f_l_is_valid_fraction a.fd_l_is_valid_fraction ["_law_x"] (sp_l_is_valid_fraction K) := by
  have G_l_reduce := ok_l_reduce (P := P) (w := w) (base := base) T
  refine T.F_l_is_valid_fraction.ok sc_l_is_valid_fraction (fun vs H Q E h => ?_) (fun cdv A outer s H vs Q E hr h => ?_)
  · obtain ⟨v, f, rfl, _⟩ := h
    rfl
  · obtain ⟨v, f, rfl, ⟨⟨p, rfl, hp⟩, nB, dB⟩, w⟩ := h
    refine ⟨_, (pss_cons (ps_set (i := 1) sc_l_is_valid_fraction.nd rfl (by first | exact Or.inl rfl | exact Or.inr rfl) (pe_and (pe_chain op_lt op_lt pe_int (pe_ix ix_tup (pv 0) pe_int (fun _ _ => rfl)) (pe_op op_pow pe_int pe_int)) (pe_one (pe_cmpR op_lt (pe_callB call_abs (by rfl) T.n_abs (by decide +kernel) (pa_cons (pe_ix ix_tup (pv 0) pe_int (fun _ _ => rfl)) pa_nil)) (pe_op op_pow pe_int pe_int) (nomark _)))))
          (pss_one (ps_ret (pe_and (pv 1) (pe_one (pe_cmpR (op_eqD hr.units) (pe_call G_l_reduce (hr.mono (by first | decide | omega)) (by rfl) T.g_l_reduce T.F_l_reduce.kp T.b_l_reduce .nil pass0 (pa_cons (pe_ix ix_tup (pv 0) pe_int (fun _ _ => rfl)) (pa_cons (pe_ix ix_tup (pv 0) pe_int (fun _ _ => rfl)) pa_nil))) (pv 0) (nomark _))))))), ?_⟩
    have eP : (10 : Int) ^ (12 : Int).toNat = 1000000000000 := by decide
    have pw : CPow (10 : Int) 12 := ⟨by decide, by decide, by decide⟩
    refine go_seq (go_asg ?_)
    refine both (te := tAndV _ _) (fun v H' => H' = H ∧ v = .bl (decide (f.1.natAbs ≤ 999999999999) && (decide (1 ≤ f.2) && decide (f.2 ≤ 999999999999)))) (fun v H1 h1 => ?_) (fun Q' hQ => ?_)
    rotate_left
    · refine ⟨.ref p, rfl, p, _, 1, _, rfl, rfl, hp, rfl, 0, f.2, rfl, rfl, _, rfl, ite2 (fun e => ?_) (fun e => ?_)⟩
      · have e1 : 1 ≤ f.2 := by have := of_decide_eq_true e; omega
        refine ⟨10, 12, rfl, rfl, pw, f.2, _, rfl, rfl, _, rfl, ?_⟩
        rw [eP]
        by_cases e2 : f.2 < 1000000000000
        · refine ifT (decide_eq_true e2) ⟨.ref p, rfl, p, _, 0, _, rfl, rfl, hp, rfl, f.1, rfl, 10, 12, rfl, rfl, pw, _, _, rfl, rfl, hQ _ _ ⟨rfl, congrArg V.bl ?_⟩⟩
          rw [eP, decide_eq_true e1, decide_eq_true (show f.2 ≤ 999999999999 by omega), Bool.and_true, Bool.and_true]
          exact decide_eq_decide.mpr (by split <;> omega)
        · refine ifF (decide_eq_false e2) (hQ _ _ ⟨rfl, congrArg V.bl ?_⟩)
          rw [decide_eq_false (show ¬ f.2 ≤ 999999999999 by omega), Bool.and_false, Bool.and_false]
      · refine ⟨false, rfl, ifF rfl (hQ _ _ ⟨rfl, congrArg V.bl ?_⟩)⟩
        have e1 : ¬ 1 ≤ f.2 := fun z => e (decide_eq_true (by omega))
        rw [decide_eq_false e1, Bool.false_and, Bool.and_false]
    obtain ⟨rfl, rfl⟩ := h1
    have w0 := w H1 (Same.refl H1)
    unfold fracB at w0 w
    refine ⟨_, rfl, _, rfl, ?_⟩
    cases h : (decide (f.1.natAbs ≤ 999999999999) && (decide (1 ≤ f.2) && decide (f.2 ≤ 999999999999))) with
    | false =>
      rw [h, Bool.false_and] at w0
      exact ifF rfl w0
    | true =>
      rw [h, Bool.true_and] at w
      have d1 : 1 ≤ f.2 := by
        rw [Bool.and_eq_true, Bool.and_eq_true, decide_eq_true_eq, decide_eq_true_eq] at h
        exact h.2.1
      refine ifT rfl ⟨.ref p, rfl, p, _, 0, _, rfl, rfl, hp, rfl, .ref p, rfl, p, _, 1, _, rfl, rfl, hp, rfl, f.1, f.2, rfl, by omega, Nat.lt_of_lt_of_le dB (Nat.pow_le_pow_right (by decide) (by decide)), fun q nq => ?_⟩
      have sq := Same.new (o := .tup [.int (red f.1 f.2).1, .int (red f.1 f.2).2]) nq
      refine ⟨.ref p, rfl, .tuple [.int (red f.1 f.2).1, .int (red f.1 f.2).2], .tuple [.int f.1, .int f.2], .tup (SqT.of upd_same) (.cons (.int _) (.cons (.int _) .nil)), .tup (Same.T sq hp) (.cons (.int _) (.cons (.int _) .nil)), rfl, rfl, ?_⟩
      rw [fr_eqv]
      exact w _ sq
end
section
variable {P : Program} {w : World} {K : PySem.W.Frag} {mg : Str → Option Value} {base : Heap} {a : Ad}
def sp_l_is_term (K : PySem.W.Frag) : Sp := spIsT K 12

theorem ok_l_is_term_n (T : Txt K mg a) : ∀ n, FnOk P w K mg base CX0 (n + 4) a.f_l_is_term a.fd_l_is_term ["_law_my_term", "_law_deep"] (spIsT K n)
  | 0 => fn_false
  | n + 1 => by
    have G_l_is_name := ok_l_is_name (P := P) (w := w) (base := base) T
    have G_l_is_valid_fraction := ok_l_is_valid_fraction (P := P) (w := w) (base := base) T
    have G_l_sum := ok_l_sum (P := P) (w := w) (base := base) T
    have G_l_is_term := ok_l_is_term_n T n
    refine T.F_l_is_term.ok sc_l_is_term (fun vs H Q E h => ?_) (fun cdv A outer s H vs Q E hr h => ?_)
    · obtain ⟨v, t, d, m, rfl, _⟩ := h
      rfl
    obtain ⟨v, t, d, m, rfl, dn, dm, ht, w⟩ := h
    refine ⟨_, (pss_cons (ps_if (PW.pt (pw_or (pt_cmpR op_lt (pv 1) pe_int (nomark _)) (pw_or (pt_cmpR op_lt (pe_callB call_len (by rfl) T.n_len (by decide +kernel) (pa_cons (pv 0) pa_nil)) pe_int (nomark _)) (pw_or1 (pt_cmpR op_notIn_seq (pe_ix ix_tup (pv 0) pe_int (fun _ _ => rfl)) (pe_tup (pa_cons pe_str (pa_cons pe_str (pa_cons pe_str (pa_cons pe_str (pa_cons pe_str (pa_cons pe_str pa_nil))))))) (by rfl)))))) (pss_one (ps_ret pe_bl)) pss_nil)
      (pss_cons (ps_set (i := 2) sc_l_is_term.nd rfl (by first | exact Or.inl rfl | exact Or.inr rfl) (pe_slice sl_tup (pv 0) (po_some pe_int) po_none))
      (pss_cons (ps_if (pt_cmpR op_eq (pe_ix ix_tup (pv 0) pe_int (fun _ _ => rfl)) pe_str (nomark _)) (pss_one (ps_ret (pe_and (pe_cmpR op_eq (pe_callB call_len (by rfl) T.n_len (by decide +kernel) (pa_cons (pv 2) pa_nil)) pe_int (nomark _)) (pe_one (pe_call G_l_is_name (hr.mono (by first | decide | omega)) (by rfl) T.g_l_is_name T.F_l_is_name.kp T.b_l_is_name .nil pass0 (pa_cons (pe_ix ix_tup (pv 2) pe_int (fun _ _ => rfl)) pa_nil)))))) pss_nil)
      (pss_cons (ps_if (pt_cmpR op_eq (pe_ix ix_tup (pv 0) pe_int (fun _ _ => rfl)) pe_str (nomark _)) (pss_one (ps_ret (pe_and (pe_cmpR op_eq (pe_callB call_len (by rfl) T.n_len (by decide +kernel) (pa_cons (pv 2) pa_nil)) pe_int (nomark _)) (pe_and (pe_call G_l_is_term (hr.mono (by first | decide | omega)) (by rfl) T.g_l_is_term T.F_l_is_term.kp T.b_l_is_term .nil pass0 (pa_cons (pe_ix ix_tup (pv 2) pe_int (fun _ _ => rfl)) (pa_cons (pe_op op_sub (pv 1) pe_int) pa_nil))) (pe_one (pe_call G_l_is_valid_fraction (hr.mono (by first | decide | omega)) (by rfl) T.g_l_is_valid_fraction T.F_l_is_valid_fraction.kp T.b_l_is_valid_fraction .nil pass0 (pa_cons (pe_ix ix_tup (pv 2) pe_int (fun _ _ => rfl)) pa_nil))))))) pss_nil)
      (pss_cons (ps_if (PW.pt (pw_or (PW.pt (pw_and (pt_cmpR op_eq (pe_ix ix_tup (pv 0) pe_int (fun _ _ => rfl)) pe_str (nomark _)) (pw_and1 (pt_cmpR op_ne (pe_callB call_len (by rfl) T.n_len (by decide +kernel) (pa_cons (pv 2) pa_nil)) pe_int (nomark _))))) (pw_or1 (pt_cmpR op_gt (pe_callB call_len (by rfl) T.n_len (by decide +kernel) (pa_cons (pv 2) pa_nil)) pe_int (nomark _))))) (pss_one (ps_ret pe_bl)) pss_nil)
      (pss_cons (ps_if (pt_cmpR op_ne (pe_ix ix_tup (pv 0) pe_int (fun _ _ => rfl)) pe_str (nomark _)) (pss_one (ps_ret (pe_callB (cr_all rfl) (by rfl) T.n_all (by decide +kernel) (pa_cons (pe_lc (own := [("_law_one", 3)]) (g := gName 3) rfl sc_l_is_term.nd (pi_tup (pv 2)) (blkOk_by (own := [("_law_one", 3)]) (N := ["_law_my_term", "_law_deep", "_law_rest", "_law_one", "_law_share"]) (sc := defScope s_l_is_term) (by decide +kernel)) (fun _ _ _ _ _ => (pg_name (i := 3) sc_l_is_term.nd rfl (Or.inl rfl))) (fun _ _ _ _ _ => pts_nil) (fun _ _ _ _ _ => (pe_call G_l_is_term (hr.mono (by first | decide | omega)) (by rfl) T.g_l_is_term T.F_l_is_term.kp T.b_l_is_term .nil pass0 (pa_cons (pv 3) (pa_cons (pe_op op_sub (pv 1) pe_int) pa_nil))))) pa_nil)))) pss_nil)
      (pss_cons (ps_if (pt_not (pt_val (pe_callB (cr_all rfl) (by rfl) T.n_all (by decide +kernel) (pa_cons (pe_lc (own := [("_law_share", 4), ("_law_one", 3)]) (g := gTup K 2 (gCons (gName 4) (gCons (gName 3) gNil))) rfl sc_l_is_term.nd (pi_tup (pv 2)) (blkOk_by (own := [("_law_share", 4), ("_law_one", 3)]) (N := ["_law_my_term", "_law_deep", "_law_rest", "_law_one", "_law_share"]) (sc := defScope s_l_is_term) (by decide +kernel)) (fun _ _ _ _ _ => (pg_tup rfl (pgs_cons (pg_name (i := 4) sc_l_is_term.nd rfl (Or.inl rfl)) (pgs_cons (pg_name (i := 3) sc_l_is_term.nd rfl (Or.inl rfl)) pgs_nil)))) (fun _ _ _ _ _ => pts_nil) (fun _ _ _ _ _ => (pe_and (pe_call G_l_is_valid_fraction (hr.mono (by first | decide | omega)) (by rfl) T.g_l_is_valid_fraction T.F_l_is_valid_fraction.kp T.b_l_is_valid_fraction .nil pass0 (pa_cons (pv 4) pa_nil)) (pe_one (pe_cmpR op_gt (pe_ix (ixT (K := K) rfl) (pv 4) pe_int (fun _ _ => rfl)) pe_int (nomark _)))))) pa_nil)))) (pss_one (ps_ret pe_bl)) pss_nil)
      (pss_one (ps_ret (pe_and (pe_cmpR (op_eqD hr.units) (pe_call G_l_sum (hr.mono (by first | decide | omega)) (by rfl) T.g_l_sum T.F_l_sum.kp T.b_l_sum .nil pass0 (pa_cons (pe_lc (own := [("_law_share", 4), ("_law_one", 3)]) (g := gTup K 2 (gCons (gName 4) (gCons (gName 3) gNil))) rfl sc_l_is_term.nd (pi_tup (pv 2)) (blkOk_by (own := [("_law_share", 4), ("_law_one", 3)]) (N := ["_law_my_term", "_law_deep", "_law_rest", "_law_one", "_law_share"]) (sc := defScope s_l_is_term) (by decide +kernel)) (fun _ _ _ _ _ => (pg_tup rfl (pgs_cons (pg_name (i := 4) sc_l_is_term.nd rfl (Or.inl rfl)) (pgs_cons (pg_name (i := 3) sc_l_is_term.nd rfl (Or.inl rfl)) pgs_nil)))) (fun _ _ _ _ _ => pts_nil) (fun _ _ _ _ _ => (pv 4))) pa_nil)) (pe_tup (pa_cons pe_int (pa_cons pe_int pa_nil))) (nomark _)) (pe_one (pe_callB (cr_all rfl) (by rfl) T.n_all (by decide +kernel) (pa_cons (pe_lc (own := [("_law_share", 4), ("_law_one", 3)]) (g := gTup K 2 (gCons (gName 4) (gCons (gName 3) gNil))) rfl sc_l_is_term.nd (pi_tup (pv 2)) (blkOk_by (own := [("_law_share", 4), ("_law_one", 3)]) (N := ["_law_my_term", "_law_deep", "_law_rest", "_law_one", "_law_share"]) (sc := defScope s_l_is_term) (by decide +kernel)) (fun _ _ _ _ _ => (pg_tup rfl (pgs_cons (pg_name (i := 4) sc_l_is_term.nd rfl (Or.inl rfl)) (pgs_cons (pg_name (i := 3) sc_l_is_term.nd rfl (Or.inl rfl)) pgs_nil)))) (fun _ _ _ _ _ => pts_nil) (fun _ _ _ _ _ => (pe_call G_l_is_term (hr.mono (by first | decide | omega)) (by rfl) T.g_l_is_term T.F_l_is_term.kp T.b_l_is_term .nil pass0 (pa_cons (pv 3) (pa_cons (pe_op op_sub (pv 1) pe_int) pa_nil))))) pa_nil))))))))))))), ?_⟩
    refine ⟨_, rfl, _, 1, rfl, rfl, _, rfl, ?_⟩
    cases d with
    | zero => exact ifT (decide_eq_true (by omega)) (iteT (w H (Same.refl H)))
    | succ d =>
      refine ifF (decide_eq_false (by omega)) ?_
      obtain ⟨n, rfl⟩ : ∃ n', n = n' + 1 := ⟨n - 1, by omega⟩
      obtain ⟨m, rfl⟩ : ∃ m', m = m' + 1 := ⟨m - 1, by omega⟩
      obtain ⟨k, ts⟩ := t
      obtain ⟨l60, xs, hN, hA⟩ := ht
      obtain ⟨p, ys, rfl, hp, hR⟩ := hN.nm
      have hlen := hA.1
      have w' : ∀ H', Same H H' → Q (.bl (formK k ts.length && ts.all (isT d))) H' := w
      rw [← hlen] at w'
      have no : formK k xs.length = false → ∀ H', Same H H' → Q (.bl false) H' := fun h H' s => by
        have := w' H' s
        rw [h, Bool.false_and] at this
        exact this
      refine ⟨.ref p, rfl, .ref p, ys.length + 1, rfl, .inr ⟨_, hp, rfl⟩, _, 2, rfl, rfl, _, rfl, ?_⟩
      by_cases y0 : ys = []
      · subst y0
        exact ifT (decide_eq_true (by decide)) (iteT (no (form_nil hR) H (Same.refl H)))
      have y1 : 1 ≤ ys.length := by
        cases ys with
        | nil => exact absurd rfl y0
        | cons => exact Nat.succ_le_succ (Nat.zero_le _)
      refine ifF (decide_eq_false (by omega)) ?_
      refine ⟨.ref p, rfl, p, _, 0, _, rfl, rfl, hp, atI_nat (j := 0) rfl, sz (by show 6 ≤ 100000; decide), fun q nq => ?_⟩
      have sq := Same.new (o := .tup (kinds.map V.str)) nq
      refine ⟨q, _, rfl, .inr (SqT.of upd_same), rfl, rfl, _, rfl, ?_⟩
      have ein : inV (.str k.nm) (kinds.map V.str) = decide (k.nm ∈ kinds) := in_strs _ _
      by_cases hk : k.nm ∈ kinds
      rotate_left
      · exact ifT (by show (!inV (.str k.nm) (kinds.map V.str)) = true; rw [ein, decide_eq_false hk]; rfl) (no (form_kind hk) _ sq)
      refine ifF (by show (!inV (.str k.nm) (kinds.map V.str)) = false; rw [ein, decide_eq_true hk]; rfl) ?_
      have hp1 := Same.T sq hp
      refine ⟨.ref p, rfl, 1, rfl, p, _, rfl, hp1, not_whole _ _, fun c nc => ?_⟩
      rw [cut_one]
      have sc := Same.new (o := .tup ys) nc
      have s2 := sq.trans sc
      have hp2 := Same.T s2 hp
      have hc : SqT K (upd (upd H q (.tup (kinds.map V.str))) c (.tup ys)) c ys := SqT.of upd_same
      refine ⟨.ref p, rfl, p, _, 0, _, rfl, rfl, hp2, atI_nat (j := 0) rfl, rfl, _, rfl, ?_⟩
      have dE : ∀ x, [x, V.int (((d + 1 : Nat) : Int) - 1)] = [x, V.int ((d : Nat) : Int)] := fun x => by rw [show (((d + 1 : Nat) : Int) - 1) = ((d : Nat) : Int) by omega]
      have eqi : ∀ j m : Nat, decide (V.int ((j : Nat) : Int) = V.int (m : Int)) = decide (j = m) := fun j m => decide_eq_decide.mpr ⟨fun y => by have := V.int.inj y; omega, fun y => by rw [y]⟩
      match k, hR with
      | .ev ss, ⟨ex, l2, l3, ey⟩ =>
        subst ex ey
        have t0 : ts = [] := List.length_eq_zero_iff.mp hlen.symm
        subst t0
        have w2 : ∀ H', Same H H' → Q (.bl (evB ss)) H' := fun H' s => by
          have := w' H' s
          have e : (formK (.ev ss) ([] : List V).length && ([] : List Rw).all (isT d)) = evB ss := Bool.and_true _
          rw [e] at this
          exact this
        refine ifT (decide_eq_true rfl) ⟨.ref c, rfl, .ref c, ss.length, rfl, .inr ⟨_, hc, by rw [List.length_map]⟩, rfl, _, rfl, ?_⟩
        rcases ss with _ | ⟨s, _ | ⟨s2', rest⟩⟩
        · exact ifF (by decide) (w2 _ s2)
        · exact ifT (decide_eq_true rfl) ⟨.ref c, rfl, c, _, 0, _, rfl, rfl, hc, rfl, s, rfl, Nat.le_trans (l3 s List.mem_cons_self) (by decide), fun H3 s3 => w2 H3 (s2.trans s3)⟩
        · exact ifF (by
            rw [show decide (V.int (((s :: s2' :: rest).length : Nat) : Int) = V.int 1) = decide ((s :: s2' :: rest).length = 1) from eqi _ 1]
            exact decide_eq_false (by rw [List.length_cons, List.length_cons]; omega)) (w2 _ s2)
      | .dl none, ⟨x, ex, ey⟩ =>
        subst ex ey
        exact ifF (str_no (by decide +kernel)) ⟨.ref p, rfl, p, _, 0, _, rfl, rfl, hp2, atI_nat (j := 0) rfl, rfl, _, rfl, ifT (decide_eq_true rfl) ⟨.ref c, rfl, .ref c, 1, rfl, .inr ⟨_, hc, rfl⟩, rfl, _, rfl, ifF (by decide) (no rfl _ s2)⟩⟩
      | .dl (some f), ⟨x, fv, ex, ey, hf⟩ =>
        subst ex ey
        obtain ⟨t0, rfl⟩ : ∃ t0, ts = [t0] := List.length_eq_one_iff.mp hlen.symm
        have tx : RwAt K H m x t0 := hA.2 0 x t0 rfl rfl
        have w2 : ∀ H', Same H H' → Q (.bl (fracB f && isT d t0)) H' := fun H' s => by
          have := w' H' s
          rw [List.all_cons, List.all_nil, Bool.and_true] at this
          exact this
        refine ifF (str_no (show decide (("delay" : Str) = "event") = false by decide +kernel)) ⟨.ref p, rfl, p, _, 0, _, rfl, rfl, hp2, atI_nat (j := 0) rfl, rfl, _, rfl, ifT (decide_eq_true rfl) ⟨.ref c, rfl, .ref c, 2, rfl, .inr ⟨_, hc, rfl⟩, rfl, _, rfl, ifT (by decide) ?_⟩⟩
        refine ⟨.ref c, rfl, c, _, 0, _, rfl, rfl, hc, rfl, _, rfl, _, 1, rfl, rfl, x, t0, d, m, dE x, by omega, by omega, tx.same s2, fun H3 s3 => ⟨_, rfl, ?_⟩⟩
        cases h : isT d t0 with
        | false =>
          rw [h, Bool.and_false] at w2
          exact ifF rfl (w2 _ (s2.trans s3))
        | true =>
          rw [h, Bool.and_true] at w2
          exact ifT rfl ⟨.ref c, rfl, c, _, 1, _, rfl, rfl, Same.T s3 hc, rfl, fv, f, rfl, hf.same (s2.trans s3), fun H4 s4 => w2 _ (s2.trans (s3.trans s4))⟩
      | .mx ws, ⟨l1, l2, hm⟩ =>
        refine ifF (str_no (show decide (("mix" : Str) = "event") = false by decide +kernel)) ⟨.ref p, rfl, p, _, 0, _, rfl, rfl, hp2, atI_nat (j := 0) rfl, rfl, _, rfl, ifF (str_no (show decide (("mix" : Str) = "delay") = false by decide +kernel)) ?_⟩
        refine ⟨.ref p, rfl, p, _, 0, _, rfl, rfl, hp2, atI_nat (j := 0) rfl, rfl, _, rfl, ifF (str_no (show decide (("mix" : Str) = "median") = false by decide +kernel)) (iteF ?_)⟩
        refine ⟨.ref c, rfl, .ref c, ys.length, rfl, .inr ⟨_, hc, rfl⟩, _, 6, rfl, rfl, _, rfl, ?_⟩
        have w2 : ∀ H', Same H H' → Q (.bl (((decide (1 ≤ xs.length) && decide (xs.length ≤ 6)) && mixB ws) && ts.all (isT d))) H' := w'
        rw [← l1, decide_eq_true y1, Bool.true_and] at w2
        by_cases h6 : ys.length ≤ 6
        rotate_left
        · rw [decide_eq_false h6, Bool.false_and, Bool.false_and] at w2
          exact ifT (decide_eq_true (by omega)) (w2 _ s2)
        rw [decide_eq_true h6, Bool.true_and] at w2
        refine ifF (decide_eq_false (by omega)) ?_
        refine ⟨.ref p, rfl, p, _, 0, _, rfl, rfl, hp2, atI_nat (j := 0) rfl, rfl, _, rfl, ifF (by show (!decide (V.str ("mix" : Str) = V.str "mix")) = false; rw [decide_eq_true rfl]; rfl) ?_⟩
        refine ⟨.ref c, rfl, c, rfl, ⟨_, hc⟩, fun D nD => ?_⟩
        have il' : ∀ {i : Nat} {y : V}, ys[i]? = some y → i < ys.length := fun h => (List.getElem?_eq_some_iff.mp h).1
        refine lc_tup (K := K) (a := c) (xs := ys) (fun i H3 => Same (upd (upd H q (.tup (kinds.map V.str))) c (.tup ys)) H3 ∧ H3 D = some (.lst (((ws.take i).map wB).map V.bl))) ⟨Same.new nD, upd_same⟩ (fun i H3 _ h3 => Same.T h3.1 hc) ?_ ?_
        · rintro i y H3 hy ⟨s3, hD⟩
          have il := il' hy
          have hx : xs[i]? = some (xs[i]'(by omega)) := List.getElem?_eq_getElem _
          have hf : ws[i]? = some (ws[i]'(by omega)) := List.getElem?_eq_getElem _
          obtain ⟨q', wv, rfl, hq, fw⟩ := hm i y _ _ hy hx hf
          have s23 := s2.trans s3
          refine ⟨q', _, rfl, Same.T s23 hq, rfl, _, _, rfl, _, _, rfl, rfl, rfl, tYes_if ?_⟩
          refine both (te := tAndV _ _) (fun v H4 => Same H3 H4 ∧ v = .bl (wB (ws[i]'(by omega)))) (fun v H4 h4 => ?_) (fun Q' hQ => ?_)
          · obtain ⟨s4, rfl⟩ := h4
            refine ⟨_, s4 _ _ hD, by rw [List.length_map, List.length_map, List.length_take]; exact szl (by omega), fun b o e => ?_, ?_⟩
            · rw [upd_ne (ne_of_none e nD)]; exact s4 _ _ (s3 _ _ e)
            · rw [upd_same, tk_more hf, List.map_append]; rfl
          · obtain ⟨pw, rfl, hpw⟩ := (fw.same s23).fr
            refine ⟨_, rfl, _, _, rfl, fw.same s23, fun H4 s4 => ⟨_, rfl, ?_⟩⟩
            cases hfb : fracB (ws[i]'(by omega)) with
            | false => exact ifF rfl (hQ _ _ ⟨s4, by unfold wB; rw [hfb]; rfl⟩)
            | true => exact ifT rfl ⟨_, rfl, pw, _, 0, _, rfl, rfl, Same.T s4 hpw, rfl, _, 0, rfl, rfl, hQ _ _ ⟨s4, by unfold wB; rw [hfb, Bool.true_and]⟩⟩
        · rintro H3 ⟨s3, hD⟩
          rw [show ys.length = ws.length by omega, List.take_length] at hD
          refine ⟨D, _, rfl, SqL.of hD, ?_⟩
          have ea : (ws.map wB).all id = ws.all (fun w => fracB w && decide (0 < w.1)) := by rw [List.all_map]; rfl
          rw [ea]
          unfold mixB at w2
          cases ha : ws.all (fun w => fracB w && decide (0 < w.1)) with
          | false =>
            have := w2 H3 (s2.trans s3)
            rw [ha, Bool.false_and, Bool.false_and] at this
            exact ⟨false, rfl, iteT this⟩
          | true =>
            rw [ha, Bool.true_and] at w2
            refine ⟨true, rfl, iteF ?_⟩
            have s23 := s2.trans s3
            refine ⟨.ref c, rfl, c, rfl, ⟨_, Same.T s3 hc⟩, fun L nL => ?_⟩
            refine lc_tup (K := K) (a := c) (xs := ys) (fun i H4 => Same H3 H4 ∧ ∃ vs, H4 L = some (.lst vs) ∧ Frs K H4 vs (ws.take i) 40) ⟨Same.new nL, [], upd_same, Frs.nil'⟩ (fun i H4 _ h4 => Same.T (s3.trans h4.1) hc) ?_ ?_
            · rintro i y H4 hy ⟨s4, vs, hL, hF⟩
              have il := il' hy
              have hx : xs[i]? = some (xs[i]'(by omega)) := List.getElem?_eq_getElem _
              have hf : ws[i]? = some (ws[i]'(by omega)) := List.getElem?_eq_getElem _
              obtain ⟨q', wv, rfl, hq, fw0⟩ := hm i y _ _ hy hx hf
              have fw := fw0.same (s23.trans s4)
              have vl := hF.1
              have ok := List.all_eq_true.mp ha _ (List.mem_of_getElem? hf)
              rw [Bool.and_eq_true] at ok
              obtain ⟨d0, g⟩ := fracB_low ok.1
              refine ⟨q', _, rfl, Same.T (s23.trans s4) hq, rfl, _, _, rfl, _, _, rfl, rfl, rfl, tYes_if ?_⟩
              refine ⟨wv, rfl, vs, hL, by rw [vl, List.length_take]; exact szl (by omega), fun b o e => ?_, vs ++ [wv], upd_same, ?_⟩
              · rw [upd_ne (ne_of_none e nL)]; exact s4 _ _ e
              · rw [List.take_add_one, hf]
                exact (hF.app' (Frs.one' ⟨fw.fr, d0, g, (fracB_bd ok.1).1, (fracB_bd ok.1).2⟩)).put' hL
            rintro H4 ⟨s4, vs, hL, hF⟩
            rw [show ys.length = ws.length by omega, List.take_length] at hF
            refine ⟨L, vs, ws, rfl, SqL.of hL, hF, by rw [hF.1]; omega, fun v H5 s5 fv => ?_⟩
            refine ⟨sz (by show 2 ≤ 100000; decide), fun e ne => ?_⟩
            obtain ⟨pv, rfl, hpv⟩ := fv.fr
            have s6 := Same.new (o := .tup [.int 1, .int 1]) ne
            refine ⟨.tuple [.int (ws.foldl radd (0, 1)).1, .int (ws.foldl radd (0, 1)).2], .tuple [.int 1, .int 1], .tup (Same.T s6 hpv) (.cons (.int _) (.cons (.int _) .nil)), .tup (SqT.of upd_same) (.cons (.int _) (.cons (.int _) .nil)), rfl, rfl, ?_⟩
            have e3 : PyData.eqv (.tuple [.int (ws.foldl radd (0, 1)).1, .int (ws.foldl radd (0, 1)).2]) (.tuple [.int 1, .int 1]) = decide (ws.foldl radd (0, 1) = (1, 1)) := fr_eqv (ws.foldl radd (0, 1)) (1, 1)
            rw [e3]
            have s06 := s23.trans (s4.trans (s5.trans s6))
            have hc6 := Same.T (s3.trans (s4.trans (s5.trans s6))) hc
            refine ⟨_, rfl, ?_⟩
            cases hs : decide (ws.foldl radd (0, 1) = (1, 1)) with
            | false =>
              have := w2 _ s06
              rw [hs, Bool.false_and] at this
              exact ifF rfl this
            | true =>
              rw [hs, Bool.true_and] at w2
              refine ifT rfl ⟨.ref c, rfl, c, rfl, ⟨_, hc6⟩, fun G nG => ?_⟩
              refine lc_tup (K := K) (a := c) (xs := ys) (fun i H7 => Same (upd H5 e (.tup [.int 1, .int 1])) H7 ∧ H7 G = some (.lst (((ts.take i).map (isT d)).map V.bl))) ⟨Same.new nG, upd_same⟩ (fun i H7 _ h7 => Same.T h7.1 hc6) ?_ ?_
              · rintro i y H7 hy ⟨s7, hG⟩
                have il := il' hy
                have hx : xs[i]? = some (xs[i]'(by omega)) := List.getElem?_eq_getElem _
                have hf : ws[i]? = some (ws[i]'(by omega)) := List.getElem?_eq_getElem _
                obtain ⟨q', wv, rfl, hq, _⟩ := hm i y _ _ hy hx hf
                obtain ⟨u, hu, tu⟩ := hA.at hx
                have s07 := s06.trans s7
                refine ⟨q', _, rfl, Same.T s07 hq, rfl, _, _, rfl, _, _, rfl, rfl, rfl, tYes_if ?_⟩
                refine ⟨_, rfl, _, rfl, _, 1, rfl, rfl, _, u, d, m, dE _, by omega, by omega, tu.same s07, fun H8 s8 => ?_⟩
                refine ⟨_, s8 _ _ hG, by rw [List.length_map, List.length_map, List.length_take]; exact szl (by omega), fun b o e => ?_, ?_⟩
                · rw [upd_ne (ne_of_none e nG)]; exact s8 _ _ (s7 _ _ e)
                · rw [upd_same, tk_more hu, List.map_append]; rfl
              · rintro H7 ⟨s7, hG⟩
                rw [show ys.length = ts.length by omega, List.take_length] at hG
                refine ⟨G, _, rfl, SqL.of hG, ?_⟩
                have eb : (ts.map (isT d)).all id = ts.all (isT d) := by rw [List.all_map]; rfl
                rw [eb]
                exact w2 _ (s06.trans s7)
      | .nn kk, ⟨n1, n2, n3, ey⟩ =>
        subst ey
        have w2 : ∀ H', Same H H' → Q (.bl ((if kk = "median" then decide (ys.length = 3) else (decide (kk = "max") || decide (kk = "min")) && (decide (1 ≤ ys.length) && decide (ys.length ≤ 6))) && ts.all (isT d))) H' := w'
        refine ifF (decide_eq_false fun y => n1 (V.str.inj y)) ⟨.ref p, rfl, p, _, 0, _, rfl, rfl, hp2, atI_nat (j := 0) rfl, rfl, _, rfl, ifF (decide_eq_false fun y => n2 (V.str.inj y)) ?_⟩
        have eM : decide (V.str (Rk.nn kk).nm = V.str "median") = decide (kk = "median") := decide_eq_decide.mpr ⟨fun y => V.str.inj y, fun y => by rw [← y]; rfl⟩
        refine go_next ?_
        dsimp only
        refine go_seq (go_ifS ((decide (kk = "median") && !decide (ys.length = 3)) || decide (6 < ys.length)) (upd (upd H q (.tup (kinds.map V.str))) c (.tup ys)) (fun Q' hQ => ?_) ?_)
        · refine ⟨.ref p, rfl, p, _, 0, _, rfl, rfl, hp2, atI_nat (j := 0) rfl, rfl, _, rfl, ?_⟩
          have big : ∀ Q' : Bool → Hp → Prop, Q' (decide (6 < ys.length)) (upd (upd H q (.tup (kinds.map V.str))) c (.tup ys)) → tTest (tOp (rI0 fun i j => .bl (decide (j < i))) (tCB (fun xs H Q => ∃ x n, xs = [x] ∧ LenV K x H n ∧ Q (.int ↑n) H) (tCons (tVar 2) tNil)) (tC (.int 6))) [some (.ref p), some (.int ((d + 1 : Nat) : Int)), some (.ref c), none, none] (upd (upd H q (.tup (kinds.map V.str))) c (.tup ys)) Q' := fun Q' hq => ⟨.ref c, rfl, .ref c, ys.length, rfl, .inr ⟨_, hc, rfl⟩, _, 6, rfl, rfl, _, rfl, by
              rw [show decide ((6 : Int) < ((ys.length : Nat) : Int)) = decide (6 < ys.length) from decide_eq_decide.mpr (by omega)]
              exact hq⟩
          by_cases hmd : kk = "median"
          · rw [decide_eq_true hmd, Bool.true_and] at hQ
            refine ifT (by rw [eM]; exact decide_eq_true hmd) ⟨.ref c, rfl, .ref c, ys.length, rfl, .inr ⟨_, hc, rfl⟩, rfl, _, rfl, ?_⟩
            have e3 : (!decide (V.int ((ys.length : Nat) : Int) = V.int 3)) = !decide (ys.length = 3) := congrArg _ (eqi ys.length 3)
            cases h3 : decide (ys.length = 3) with
            | false => rw [h3] at hQ e3; exact ifT e3 hQ
            | true => rw [h3] at hQ e3; exact ifF e3 (big _ hQ)
          · rw [decide_eq_false hmd, Bool.false_and, Bool.false_or] at hQ
            exact ifF (by rw [eM]; exact decide_eq_false hmd) (iteF (big _ hQ))
        have dd : ∀ b : Bool, ((decide (kk = "median") && !decide (ys.length = 3)) || decide (6 < ys.length)) = b → (if kk = "median" then decide (ys.length = 3) else (decide (kk = "max") || decide (kk = "min")) && (decide (1 ≤ ys.length) && decide (ys.length ≤ 6))) = !b := fun b hb => by
          by_cases hmd : kk = "median"
          · rw [decide_eq_true hmd, Bool.true_and] at hb
            rw [if_pos hmd, ← hb]
            by_cases h3 : ys.length = 3
            · rw [decide_eq_true h3, decide_eq_false (show ¬ 6 < ys.length by omega)]; rfl
            · rw [decide_eq_false h3]; rfl
          · rw [decide_eq_false hmd, Bool.false_and, Bool.false_or] at hb
            have hmm : (decide (kk = "max") || decide (kk = "min")) = true := by
              have hk' : kk ∈ kinds := hk
              unfold kinds at hk'
              rcases List.mem_cons.mp hk' with z | hk'
              · exact absurd z n1
              rcases List.mem_cons.mp hk' with z | hk'
              · exact absurd z n2
              rcases List.mem_cons.mp hk' with z | hk'
              · rw [decide_eq_true z]; rfl
              rcases List.mem_cons.mp hk' with z | hk'
              · rw [decide_eq_true z, Bool.or_true]
              rcases List.mem_cons.mp hk' with z | hk'
              · exact absurd z hmd
              exact absurd (List.mem_singleton.mp hk') n3
            rw [if_neg hmd, hmm, decide_eq_true y1, ← hb, Bool.true_and, Bool.true_and, ← decide_not]
            exact decide_eq_decide.mpr (by omega)
        cases hb : ((decide (kk = "median") && !decide (ys.length = 3)) || decide (6 < ys.length)) with
        | true =>
          rw [dd true hb] at w2
          exact iteT (w2 _ s2)
        | false =>
          rw [dd false hb, Bool.not_false, Bool.true_and] at w2
          refine iteF ?_
          refine ⟨.ref p, rfl, p, _, 0, _, rfl, rfl, hp2, atI_nat (j := 0) rfl, rfl, _, rfl, ifT (by show (!decide (V.str kk = V.str "mix")) = true; rw [decide_eq_false fun y => n3 (V.str.inj y)]; rfl) ?_⟩
          refine ⟨.ref c, rfl, c, rfl, ⟨_, hc⟩, fun D nD => ?_⟩
          refine lc_tup (K := K) (a := c) (xs := ys) (fun i H3 => Same (upd (upd H q (.tup (kinds.map V.str))) c (.tup ys)) H3 ∧ H3 D = some (.lst (((ts.take i).map (isT d)).map V.bl))) ⟨Same.new nD, upd_same⟩ (fun i H3 _ h3 => Same.T h3.1 hc) ?_ ?_
          · rintro i x H3 hx ⟨s3, hD⟩
            have il : i < ys.length := (List.getElem?_eq_some_iff.mp hx).1
            obtain ⟨u, hu, tu⟩ := hA.at hx
            refine ⟨rfl, tYes_if ⟨x, rfl, _, rfl, _, 1, rfl, rfl, x, u, d, m, dE x, by omega, by omega, tu.same (s2.trans s3), fun H4 s4 => ?_⟩⟩
            refine ⟨_, s4 _ _ hD, by rw [List.length_map, List.length_map, List.length_take]; exact szl (by omega), fun b o e => ?_, ?_⟩
            · rw [upd_ne (ne_of_none e nD)]; exact s4 _ _ (s3 _ _ e)
            · rw [upd_same, tk_more hu, List.map_append]; rfl
          · rintro H3 ⟨s3, hD⟩
            rw [hlen, List.take_length] at hD
            refine ⟨D, _, rfl, SqL.of hD, ?_⟩
            have ea : (ts.map (isT d)).all id = ts.all (isT d) := by rw [List.all_map]; rfl
            rw [ea]
            exact w2 _ (s2.trans s3)
theorem ok_l_is_term (T : Txt K mg a) : FnOk P w K mg base CX0 16 a.f_l_is_term a.fd_l_is_term ["_law_my_term", "_law_deep"] (sp_l_is_term K) := ok_l_is_term_n T 12
end
section
variable {P : Program} {w : World} {K : PySem.W.Frag} {mg : Str → Option Value} {base : Heap} {a : Ad}
def sp_l_is_valid_term (K : PySem.W.Frag) : Sp := fun vs H Q _ => ∃ (v : V) (t : Rw), vs = [v] ∧ RwAt K H 40 v t ∧ ∀ H', Same H H' → Q (.bl (isT 10 t && decide (t.size ≤ 40))) H'

theorem ok_l_is_valid_term (T : Txt K mg a) : FnOk P w K mg base CX0 42 a.f_l_is_valid_term a.fd_l_is_valid_term ["_law_my_term"] (sp_l_is_valid_term K) := by
  have G_l_is_term := ok_l_is_term (P := P) (w := w) (base := base) T
  have G_l_size := ok_l_size (P := P) (w := w) (base := base) T
  refine T.F_l_is_valid_term.ok sc_l_is_valid_term (fun vs H Q E h => ?_) (fun cdv A outer s H vs Q E hr h => ?_)
  · obtain ⟨v, t, rfl, _⟩ := h
    rfl
  · obtain ⟨v, t, rfl, ht, w⟩ := h
    refine ⟨_, (pss_one (ps_ret (pe_and (pe_call G_l_is_term (hr.mono (by first | decide | omega)) (by rfl) T.g_l_is_term T.F_l_is_term.kp T.b_l_is_term .nil pass0 (pa_cons (pv 0) (pa_cons pe_int pa_nil))) (pe_one (pe_cmpR op_le (pe_call G_l_size (hr.mono (by first | decide | omega)) (by rfl) T.g_l_size T.F_l_size.kp T.b_l_size .nil pass0 (pa_cons (pv 0) pa_nil)) pe_int (nomark _)))))), ?_⟩
    refine ⟨v, rfl, v, t, 10, 40, rfl, by decide, by decide, ht, fun H1 s1 => ⟨_, rfl, ?_⟩⟩
    cases h : isT 10 t with
    | false =>
      rw [h, Bool.false_and] at w
      exact ifF rfl (w H1 s1)
    | true =>
      rw [h, Bool.true_and] at w
      refine ifT rfl ⟨v, rfl, v, t, rfl, ht.same s1, fun H2 s2 => ⟨_, 40, rfl, rfl, ?_⟩⟩
      show Q (.bl (decide (((t.size : Nat) : Int) ≤ 40))) H2
      rw [show decide (((t.size : Nat) : Int) ≤ 40) = decide (t.size ≤ 40) from decide_eq_decide.mpr (by omega)]
      exact w H2 (s1.trans s2)
end
section
variable {P : Program} {w : World} {K : PySem.W.Frag} {mg : Str → Option Value} {base : Heap} {a : Ad}
def sp_l_wide_term (K : PySem.W.Frag) : Sp := fun vs H Q _ => ∃ (r nl : Addr) (ss : List Str), vs = [.ref r, .ref nl] ∧ Rg H r ∧ nl ≠ r ∧ SqL K H nl (ss.map V.str) ∧ 0 < ss.length ∧ ss.length ≤ 60 ∧ ∀ v H' t, Kp r H H' → Rg H' r → FitT K H' ss v t → Q v H'
theorem fit_wide {K : PySem.W.Frag} {H : Hp} {ss : List Str} {v : V} {k : Kd} {ts : List Tm} (l1 : 4 ≤ ts.length) (l2 : ts.length ≤ 6) (nm : k ≠ .median) (g : ∀ t ∈ ts, Good ss 2 t) (h : TmAt K H 3 v (.nd k ts)) : FitT K H ss v (.nd k ts) := by
  have gin : ∀ us : List Tm, (∀ u ∈ us, ∀ s ∈ u.flat, s ∈ ss) → ∀ x ∈ Tm.flats us, x ∈ ss := by
    intro us
    induction us with
    | nil => intro _ x hx; rw [Tm.flats] at hx; cases hx
    | cons u us ih =>
      intro hh x hx
      rw [Tm.flats] at hx
      rcases List.mem_append.mp hx with z | z
      · exact hh u List.mem_cons_self x z
      · exact ih (fun v hv => hh v (List.mem_cons_of_mem _ hv)) x z
  refine ⟨h.le (by decide), VOk.le (n := 3) (by decide) ⟨⟨⟨by omega, by omega⟩, fun e => absurd e nm⟩, fun t ht => (g t ht).vok⟩, fun s hs => ?_, ?_, ?_⟩
  · rw [Tm.flat] at hs
    exact gin ts (fun u hu => flats_in (g u hu)) s hs
  · have hb := bm_le (b := 40) (B := btG 40 1) fun t ht => (g t ht).bt
    have m1 := Nat.mul_le_mul l2 (Nat.add_le_add_right hb 41)
    rw [Tm.bt]
    have : btG 40 1 = 245 := by decide
    rw [this] at m1
    omega
  · have h1 := sizes_le (B := szB 2) fun t ht => (g t ht).size
    have h2 := Nat.mul_le_mul_right (szB 2) l2
    have : szB 2 = 4 := by decide
    rw [this] at h1 h2
    rw [Tm.size]
    omega

theorem ok_l_wide_term (T : Txt K mg a) : FnOk P w K mg base CX0 9 a.f_l_wide_term a.fd_l_wide_term ["_law_rng", "_law_names_here"] (sp_l_wide_term K) := by
  have G_l_shuffled := ok_l_shuffled (P := P) (w := w) (base := base) T
  have G_l_choice := ok_l_choice (P := P) (w := w) (base := base) T
  have G_l_draw := ok_l_draw (P := P) (w := w) (base := base) T
  have G_l_term := ok_l_term (P := P) (w := w) (base := base) T
  have G_l_small := ok_l_small (P := P) (w := w) (base := base) T
  have G_l_shares := ok_l_shares (P := P) (w := w) (base := base) T
  refine T.F_l_wide_term.ok sc_l_wide_term (fun vs H Q E h => ?_) (fun cdv A outer s H vs Q E hr h => ?_)
  · obtain ⟨r, nl, ss, rfl, _⟩ := h
    rfl
  · have G_l_term := ok_l_term_n (P := P) (w := w) (base := base) T 2
    obtain ⟨r, nl, ss, rfl, R, nlr, hS, s0, s1, w⟩ := h
    refine ⟨_, (pss_cons (ps_par (i := 2) (j := 3) (by rfl) sc_l_wide_term.nd rfl rfl (by decide) rfl rfl (pa_cons (pe_op op_add pe_int (pe_call G_l_draw (hr.mono (by first | decide | omega)) (by rfl) T.g_l_draw T.F_l_draw.kp T.b_l_draw .nil pass0 (pa_cons (pv 0) (pa_cons pe_int pa_nil)))) (pa_cons (pe_call G_l_choice (hr.mono (by first | decide | omega)) (by rfl) T.g_l_choice T.F_l_choice.kp T.b_l_choice .nil pass0 (pa_cons (pv 0) (pa_cons (pe_lst (pa_cons pe_str (pa_cons pe_str (pa_cons pe_str pa_nil)))) pa_nil))) pa_nil)) (by rfl))
          (pss_cons (ps_setLc (i := 4) (own := [("_law_k", 5)]) (g := gName 5) rfl sc_l_wide_term.nd rfl rfl (sw_true rfl rfl rfl (by decide +kernel)) (pi_range1 (by rfl) T.n_range (pa_cons (pv 2) pa_nil)) (blkOk_by (own := [("_law_k", 5)]) (N := ["_law_rng", "_law_names_here", "_law_quantity", "_law_tag", "_law_parts", "_law_k", "_law_share", "_law_one"]) (sc := defScope s_l_wide_term) (by decide +kernel)) (fun _ _ _ _ _ => (pg_name (i := 5) sc_l_wide_term.nd rfl (Or.inl rfl))) (fun _ _ _ _ _ => pts_nil) (fun _ _ _ _ _ => (pe_ifExp (pt_cmpR op_eq (pv 5) pe_int (nomark _)) (pe_call G_l_term (hr.mono (by first | decide | omega)) (by rfl) T.g_l_term T.F_l_term.kp T.b_l_term .nil pass0 (pa_cons (pv 0) (pa_cons (pv 1) (pa_cons pe_int pa_nil)))) (pe_tup (pa_cons pe_str (pa_cons (pe_tup (pa_cons pe_str (pa_cons (pe_call G_l_choice (hr.mono (by first | decide | omega)) (by rfl) T.g_l_choice T.F_l_choice.kp T.b_l_choice .nil pass0 (pa_cons (pv 0) (pa_cons (pv 1) pa_nil))) pa_nil))) (pa_cons (pe_call G_l_small (hr.mono (by first | decide | omega)) (by rfl) T.g_l_small T.F_l_small.kp T.b_l_small .nil pass0 (pa_cons (pv 0) pa_nil)) pa_nil)))))))
          (pss_cons (ps_set (i := 4) sc_l_wide_term.nd rfl (by first | exact Or.inl rfl | exact Or.inr rfl) (pe_call G_l_shuffled (hr.mono (by first | decide | omega)) (by rfl) T.g_l_shuffled T.F_l_shuffled.kp T.b_l_shuffled .nil pass0 (pa_cons (pv 0) (pa_cons (pv 4) pa_nil))))
          (pss_cons (ps_if (pt_cmpR op_eq (pv 3) pe_str (nomark _)) (pss_one (ps_setLc (i := 4) (own := [("_law_share", 6), ("_law_one", 7)]) (g := gTup K 2 (gCons (gName 6) (gCons (gName 7) gNil))) rfl sc_l_wide_term.nd rfl rfl (sw_true rfl rfl rfl (by decide +kernel)) (RZ.pi_zipA (by rfl) T.n_zip (pa_cons (pe_call G_l_shares (hr.mono (by first | decide | omega)) (by rfl) T.g_l_shares T.F_l_shares.kp T.b_l_shares .nil pass0 (pa_cons (pv 0) (pa_cons (pv 2) pa_nil))) (pa_cons (pv 4) pa_nil))) (blkOk_by (own := [("_law_share", 6), ("_law_one", 7)]) (N := ["_law_rng", "_law_names_here", "_law_quantity", "_law_tag", "_law_parts", "_law_k", "_law_share", "_law_one"]) (sc := defScope s_l_wide_term) (by decide +kernel)) (fun _ _ _ _ _ => (pg_tup rfl (pgs_cons (pg_name (i := 6) sc_l_wide_term.nd rfl (Or.inl rfl)) (pgs_cons (pg_name (i := 7) sc_l_wide_term.nd rfl (Or.inl rfl)) pgs_nil)))) (fun _ _ _ _ _ => pts_nil) (fun _ _ _ _ _ => (pe_tup (pa_cons (pv 6) (pa_cons (pv 7) pa_nil)))))) pss_nil)
          (pss_one (ps_ret (pe_callTy call_tuple_of (by rfl) T.n_tuple (by decide +kernel) (pa_cons (pe_op op_cat (pe_lst (pa_cons (pv 3) pa_nil)) (pv 4)) pa_nil)))))))), ?_⟩
    refine ⟨.ref r, rfl, r, 3, rfl, R, by decide, by decide, fun q H1 q0 q1 k1 R1 => ⟨4, q, rfl, rfl, ?_⟩⟩
    refine ⟨.ref r, rfl, sz (by show 3 ≤ 100000; decide), fun cl ncl => ?_⟩
    have sc := Same.new (o := .lst [.str "max", .str "min", .str "mix"]) ncl
    refine ⟨r, .ref cl, _, rfl, R1.same sc, .inl ⟨cl, rfl, R1.ne ncl, .inl (SqL.of upd_same)⟩, by show 0 < 3; decide, by show 3 ≤ 100000; decide, fun tg htg H2 k2 R2 => ⟨_, _, rfl, ?_⟩⟩
    have k02 := k1.trans ((Kp.of sc).trans k2)
    have hS2 := k02.L nlr hS
    -- the parts
    refine ⟨.int (4 + q), rfl, 4 + q, rfl, by omega, by omega, fun D nD => ?_⟩
    have Dr : D ≠ r := R2.ne nD
    refine ⟨fun i m H3 => i + m = (4 + q).toNat ∧ Drawn1 K ss 2 r D H2 i H3, ⟨(4 + q).toNat, by omega, Drawn1.start R2 nD⟩, fun i m H3 hW => ?_⟩
    obtain ⟨em, dr⟩ := hW
    by_cases hi : i < (4 + q).toNat
    · refine .inr ⟨hi, Drawn1 K ss 2 r D H2 (i + 1), fun H4 z => ⟨m - 1, by omega, by omega, z⟩, fun v H4 hy => ?_⟩
      obtain ⟨rfl, rfl⟩ := hy
      refine ⟨rfl, tYes_if ?_⟩
      have hS3 := dr.1.L nlr hS2
      refine ⟨.int (0 + (i : Int)), rfl, rfl, _, rfl, ite2 (fun e => ?_) (fun e => ?_)⟩
      · refine ⟨.ref r, rfl, .ref nl, rfl, r, nl, ss, 2, rfl, dr.2.1, nlr, hS3, s0, s1, by decide, fun v5 H5 t5 k5 R5 m5 g5 => ?_⟩
        exact dr.more R2 nD (by omega) k5 R5 m5 g5
      · refine ⟨.ref r, rfl, .ref nl, rfl, r, .ref nl, _, rfl, dr.2.1, .inl ⟨nl, rfl, nlr, .inl hS3⟩, by rw [List.length_map]; exact s0, by rw [List.length_map]; omega, fun x hx H5 k5 R5 => ?_⟩
        obtain ⟨s, hs, rfl⟩ := List.mem_map.mp hx
        refine ⟨sz (by show 2 ≤ 100000; decide), fun p np => ?_⟩
        have sp := Same.new (o := .tup [.str "event", .str s]) np
        refine ⟨.ref r, rfl, r, rfl, R5.same sp, fun v6 H6 n6 d6 k6 R6 f6 => ⟨sz (by show 3 ≤ 100000; decide), fun p2 np2 => ?_⟩⟩
        have sp2 := Same.new (o := .tup [.str "delay", .ref p, v6]) np2
        have evt : TmAt K _ 1 (.ref p) (.ev s) := ⟨p, rfl, Same.T sp2 (RgT (R5.same sp) k6 (SqT.of upd_same))⟩
        refine dr.more (t := .nd (.delay (n6, d6)) [.ev s]) R2 nD (by omega) (k5.trans ((Kp.of sp).trans (k6.trans (Kp.of sp2)))) (R6.same sp2) ⟨[.ref p], ⟨p2, .ref p, v6, rfl, rfl, SqT.of upd_same, (f6.up' (by decide)).same sp2⟩, All2.one evt⟩ ⟨rfl, fun t ht => ?_⟩
        rw [List.mem_singleton.mp ht]; exact hs
    have ei : i = (4 + q).toNat := by omega
    subst ei
    obtain ⟨k3, R3, xs, ts, hD, hx, hA, hG⟩ := dr
    refine .inl ⟨Nat.le_refl _, ?_⟩
    refine ⟨.ref r, rfl, .ref D, rfl, r, D, xs, rfl, R3, Dr, SqL.of hD, by omega, fun L H4 ys k4 R4 hL Lr pm => ?_⟩
    have yl : ys.length = (4 + q).toNat := by rw [pm.length_eq, hx]
    obtain ⟨us, hU, gU⟩ := all2_ex (R := TmAt K H4 2) (G := Good ss 2) (ys := ys) fun y hy => by
      obtain ⟨t, a, b⟩ := hA.ex hG y (pm.mem_iff.mp hy)
      exact ⟨t, a.kp R3 k4, b⟩
    have ul : us.length = (4 + q).toNat := by rw [← hU.1, yl]
    have k04 := k02.trans (k3.trans k4)
    have plain : ∀ (k : Kd), (k = .max ∨ k = .min) → ∀ hl c p : Addr, H4 hl = none → (upd H4 hl (.lst [.str (kdS k)])) c = none → (upd (upd H4 hl (.lst [.str (kdS k)])) c (.lst ([.str (kdS k)] ++ ys))) p = none → Q (.ref p) (upd (upd (upd H4 hl (.lst [.str (kdS k)])) c (.lst ([.str (kdS k)] ++ ys))) p (.tup ([.str (kdS k)] ++ ys))) := by
      intro k hk hl c p nhl nc np
      have sA := (Same.new (o := .lst [.str (kdS k)]) nhl).trans ((Same.new (o := .lst ([.str (kdS k)] ++ ys)) nc).trans (Same.new (o := .tup ([.str (kdS k)] ++ ys)) np))
      refine w _ _ (.nd k us) (k04.trans (Kp.of sA)) (R4.same sA) (fit_wide (by omega) (by omega) (fun e => by rcases hk with rfl | rfl <;> cases e) gU ⟨ys, ?_, hU.mono fun _ _ z => z.same sA⟩)
      rcases hk with rfl | rfl
      · exact ⟨p, rfl, SqT.of upd_same⟩
      · exact ⟨p, rfl, SqT.of upd_same⟩
    simp only [List.mem_cons, List.not_mem_nil, or_false] at htg
    rcases htg with rfl | rfl | rfl
    · refine ⟨.str "max", rfl, rfl, _, rfl, ifF (str_no (by decide +kernel)) ?_⟩
      refine ⟨.str "max", rfl, sz (by show 1 ≤ 100000; decide), fun hl nhl => ?_⟩
      have sh := Same.new (o := .lst [.str "max"]) nhl
      refine ⟨.ref L, rfl, hl, L, _, _, rfl, rfl, upd_same, sh _ _ hL, sz (by show 1 + ys.length ≤ 100000; omega), fun c nc => ⟨c, _, rfl, .inl ⟨SqL.of upd_same, fun p np => plain .max (.inl rfl) hl c p nhl nc np⟩⟩⟩
    · refine ⟨.str "min", rfl, rfl, _, rfl, ifF (str_no (by decide +kernel)) ?_⟩
      refine ⟨.str "min", rfl, sz (by show 1 ≤ 100000; decide), fun hl nhl => ?_⟩
      have sh := Same.new (o := .lst [.str "min"]) nhl
      refine ⟨.ref L, rfl, hl, L, _, _, rfl, rfl, upd_same, sh _ _ hL, sz (by show 1 + ys.length ≤ 100000; omega), fun c nc => ⟨c, _, rfl, .inl ⟨SqL.of upd_same, fun p np => plain .min (.inr rfl) hl c p nhl nc np⟩⟩⟩
    refine ⟨.str "mix", rfl, rfl, _, rfl, ifT (decide_eq_true rfl) ?_⟩
    refine ⟨.ref r, rfl, .int (4 + q), rfl, r, (4 + q).toNat, by rw [show (((4 + q).toNat : Nat) : Int) = 4 + q by omega]; rfl, R4, by omega, fun sl H5 zs ws k5 R5 hsl slr hF wl sw => ?_⟩
    have hL5 := k5.1 _ _ Lr hL
    have hU5 := hU.mono fun _ _ z => z.kp R4 k5
    have zl : zs.length = ys.length := by rw [hF.1, wl, yl]
    refine ⟨.ref L, rfl, sl, L, zs, ys, rfl, .inl ⟨SqL.of hsl, SqL.of hL5, fun M nM => ?_⟩⟩
    refine ⟨fun i m H6 => i + m = ys.length ∧ Same H5 H6 ∧ ∃ ps, H6 M = some (.lst ps) ∧ ps.length = i ∧ ∀ (j : Nat) y x f, ps[j]? = some y → ys[j]? = some x → ws[j]? = some f → ∃ q wv, y = .ref q ∧ SqT K H6 q [wv, x] ∧ FrB K H6 wv f.1 f.2 40, ⟨ys.length, by omega, Same.new nM, [], upd_same, rfl, fun j y x f z => by cases z⟩, fun i m H6 hW => ?_⟩
    obtain ⟨em5, s5, ps, hM, hpl, hps⟩ := hW
    by_cases hi5 : i < ys.length
    · refine .inr ⟨⟨zs, ys, zs[i]'(by omega), ys[i], SqL.of (s5 _ _ hsl), SqL.of (s5 _ _ hL5), List.getElem?_eq_getElem _, List.getElem?_eq_getElem hi5⟩, fun H7 => Same H5 H7 ∧ ∃ ps, H7 M = some (.lst ps) ∧ ps.length = i + 1 ∧ ∀ (j : Nat) y x f, ps[j]? = some y → ys[j]? = some x → ws[j]? = some f → ∃ q wv, y = .ref q ∧ SqT K H7 q [wv, x] ∧ FrB K H7 wv f.1 f.2 40, fun H7 hN => ⟨m - 1, by omega, by omega, hN⟩, fun v H7 hy => ?_⟩
      obtain ⟨tt, u1, u2, rfl, nT, rfl, f1, f2⟩ := hy
      have hu1 := f1 _ (SqL.of (s5 _ _ hsl))
      have hu2 := f2 _ (SqL.of (s5 _ _ hL5))
      refine ⟨tt, [u1, u2], rfl, SqT.of upd_same, rfl, u1, [u2], rfl, u2, [], rfl, rfl, rfl, tYes_if ?_⟩
      refine ⟨u1, rfl, u2, rfl, sz (by show 2 ≤ 100000; decide), fun pr npr => ?_⟩
      have s6 := (Same.new (o := .tup [u1, u2]) nT).trans (Same.new (o := .tup [u1, u2]) npr)
      have hM6 := s6 _ _ hM
      refine ⟨ps, hM6, by rw [hpl]; exact szl (by omega), fun b o z => ?_, ps ++ [.ref pr], upd_same, by rw [List.length_append, hpl]; rfl, ?_⟩
      · rw [upd_ne (ne_of_none z nM)]; exact s6 _ _ (s5 _ _ z)
      · intro j y x f a b c
        by_cases hj : j < i
        · rw [List.getElem?_append_left (by omega)] at a
          obtain ⟨q', wv, e', h1, h2⟩ := hps j y x f a b c
          exact ⟨q', wv, e', SqT.put (Same.T s6 h1) hM6, (h2.same s6).put' hM6⟩
        · have ej : j = i := by
            have := (List.getElem?_eq_some_iff.mp a).1
            rw [List.length_append, hpl] at this
            have : j < i + 1 := this
            omega
          subst ej
          rw [List.getElem?_append_right (by omega), hpl, Nat.sub_self] at a
          cases a
          rw [hu2] at b
          cases b
          have fu := hF.2 j u1 f hu1 c
          exact ⟨pr, u1, rfl, SqT.put (SqT.of upd_same) hM6, ((fu.same s5).same s6).put' hM6⟩
    have e5 : i = ys.length := by omega
    refine .inl ⟨⟨zs, ys, SqL.of (s5 _ _ hsl), SqL.of (s5 _ _ hL5), .inr (by omega)⟩, ?_⟩
    refine ⟨.str "mix", rfl, sz (by show 1 ≤ 100000; decide), fun hl nhl => ?_⟩
    have sh := Same.new (o := .lst [.str "mix"]) nhl
    refine ⟨.ref M, rfl, hl, M, _, _, rfl, rfl, upd_same, sh _ _ hM, sz (by show 1 + ps.length ≤ 100000; omega), fun c nc => ⟨c, _, rfl, .inl ⟨SqL.of upd_same, fun p np => ?_⟩⟩⟩
    have sp := sh.trans ((Same.new (o := .lst ([.str "mix"] ++ ps)) nc).trans (Same.new (o := .tup ([.str "mix"] ++ ps)) np))
    refine w _ _ (.nd (.mix ws) us) (k04.trans (k5.trans (Kp.of (s5.trans sp)))) (R5.same (s5.trans sp)) (fit_wide (by omega) (by omega) (fun e => by cases e) gU ⟨ys, ⟨p, ps, rfl, SqT.of upd_same, by omega, by rw [wl, yl], fun j y x f a b c => ?_⟩, hU5.mono fun _ _ z => z.same (s5.trans sp)⟩)
    obtain ⟨q', wv, e', h1, h2⟩ := hps j y x f a b c
    exact ⟨q', wv, e', Same.T sp h1, h2.same sp⟩
end
section
variable {P : Program} {w : World} {K : PySem.W.Frag} {mg : Str → Option Value} {base : Heap} {a : Ad}
def sp_p_law (K : PySem.W.Frag) : Sp := fun vs H Q _ => ∃ (b : Addr) (ns : List Int), vs = [.ref b] ∧ SqL K H b (ns.map V.int) ∧ ns.length ≤ 63 ∧ ∀ H', Q (.bl true) H'
theorem Good.fit {K : PySem.W.Frag} {H : Hp} {ss : List Str} {v : V} {t : Tm} (h : TmAt K H 4 v t) (g : Good ss 4 t) : FitT K H ss v t := ⟨h.le (by decide), (g.le (m := 12) (by decide)).vok, flats_in g, g.bt (b := 40), g.size⟩
def tE (s : Str) : Rw := .mk (.ev [s]) []
def tD1 : Rw := .mk (.dl (some (1, 2))) [tE "a"]
def tM1 : Rw := .mk (.nn "max") [tE "b"]
def tD2 : Rw := .mk (.dl (some (-3, 1))) [tM1]
def t9 : Rw := .mk (.mx [(1, 2), (1, 2)]) [tD1, tD2]
theorem t9_ok : okT t9 = true := by decide +kernel
theorem t9_ar : Arw 4 t9 := by
  refine ⟨rfl, fun u hu => ?_⟩
  simp only [List.mem_cons, List.not_mem_nil, or_false] at hu
  rcases hu with rfl | rfl
  · refine ⟨rfl, fun u hu => ?_⟩
    rw [List.mem_singleton.mp hu]
    exact ⟨rfl, fun u hu => by cases hu⟩
  · refine ⟨rfl, fun u hu => ?_⟩
    rw [List.mem_singleton.mp hu]
    refine ⟨trivial, fun u hu => ?_⟩
    rw [List.mem_singleton.mp hu]
    exact ⟨rfl, fun u hu => by cases hu⟩
theorem t9_txt : t9.txt = TL.tl ("mix(1/2 a + 1/2, 1/2 max(b) - 3)" : Str) := by decide +kernel
theorem t9_mk : mkT (TL.tl ("mix" : Str)) [((1, 2), tD1), ((1, 2), tD2)] = t9 := by
  unfold mkT
  rw [isMix_eq, decide_eq_true rfl, if_pos rfl]
  rfl

theorem ok_p_law (T : Txt K mg a) : FnOk P w K mg base CX0 43 a.f_p_law a.fd_p_law ["_law_script"] (sp_p_law K) := by
  have G_l_source := ok_l_source (P := P) (w := w) (base := base) T
  have G_l_equal := ok_l_equal (P := P) (w := w) (base := base) T
  have G_l_names := ok_l_names (P := P) (w := w) (base := base) T
  have G_l_term := ok_l_term (P := P) (w := w) (base := base) T
  have G_l_format_term := ok_l_format_term (P := P) (w := w) (base := base) T
  have G_p_parse_term := ok_p_parse_term (P := P) (w := w) (base := base) T
  have G_l_wide_term := ok_l_wide_term (P := P) (w := w) (base := base) T
  have G_l_is_valid_term := ok_l_is_valid_term (P := P) (w := w) (base := base) T
  have G_l_draw := ok_l_draw (P := P) (w := w) (base := base) T
  have G_p_format_term := ok_p_format_term (P := P) (w := w) (base := base) T
  have Gx_p_parse_term := okx_p_parse_term (P := P) (w := w) (base := base) T
  obtain ⟨_, kb_p_format_term_0_term⟩ := T.kb_p_format_term_0_term
  obtain ⟨_, kb_p_parse_term_0_text⟩ := T.kb_p_parse_term_0_text
  refine T.F_p_law.ok sc_p_law (fun vs H Q E h => ?_) (fun cdv A outer s H vs Q E hr h => ?_)
  · obtain ⟨b, ns, rfl, _⟩ := h
    rfl
  · obtain ⟨b, ns, rfl, hS, hlen, w⟩ := h
    refine ⟨_, (pss_cons (ps_set (i := 1) sc_p_law.nd rfl (by first | exact Or.inl rfl | exact Or.inr rfl) (pe_call G_l_source (hr.mono (by first | decide | omega)) (by rfl) T.g_l_source T.F_l_source.kp T.b_l_source .nil pass0 (pa_cons (pv 0) pa_nil)))
          (pss_cons (ps_for PassesOwn.never rfl (pi_range1 (by rfl) T.n_range (pa_cons pe_int pa_nil)) (pg_name (i := 2) sc_p_law.nd rfl (by first | exact Or.inl rfl | exact Or.inr rfl)) (pss_cons (ps_set (i := 3) sc_p_law.nd rfl (by first | exact Or.inl rfl | exact Or.inr rfl) (pe_call G_l_names (hr.mono (by first | decide | omega)) (by rfl) T.g_l_names T.F_l_names.kp T.b_l_names .nil pass0 (pa_cons (pv 1) (pa_cons pe_int pa_nil))))
          (pss_cons (ps_set (i := 4) sc_p_law.nd rfl (by first | exact Or.inl rfl | exact Or.inr rfl) (pe_call G_l_term (hr.mono (by first | decide | omega)) (by rfl) T.g_l_term T.F_l_term.kp T.b_l_term .nil pass0 (pa_cons (pv 1) (pa_cons (pv 3) (pa_cons (pe_op op_add pe_int (pe_call G_l_draw (hr.mono (by first | decide | omega)) (by rfl) T.g_l_draw T.F_l_draw.kp T.b_l_draw .nil pass0 (pa_cons (pv 1) (pa_cons pe_int pa_nil)))) pa_nil)))))
          (pss_cons (ps_set (i := 4) sc_p_law.nd rfl (by first | exact Or.inl rfl | exact Or.inr rfl) (pe_ifExp (pt_cmpR op_eq (pe_call G_l_draw (hr.mono (by first | decide | omega)) (by rfl) T.g_l_draw T.F_l_draw.kp T.b_l_draw .nil pass0 (pa_cons (pv 1) (pa_cons pe_int pa_nil))) pe_int (nomark _)) (pe_call G_l_wide_term (hr.mono (by first | decide | omega)) (by rfl) T.g_l_wide_term T.F_l_wide_term.kp T.b_l_wide_term .nil pass0 (pa_cons (pv 1) (pa_cons (pv 3) pa_nil))) (pv 4)))
          (pss_cons (ps_if (pt_not (pt_val (pe_call G_l_is_valid_term (hr.mono (by first | decide | omega)) (by rfl) T.g_l_is_valid_term T.F_l_is_valid_term.kp T.b_l_is_valid_term .nil pass0 (pa_cons (pv 4) pa_nil)))) (pss_one ps_continue) pss_nil)
          (pss_cons (ps_set (i := 5) sc_p_law.nd rfl (by first | exact Or.inl rfl | exact Or.inr rfl) (pe_call G_l_format_term (hr.mono (by first | decide | omega)) (by rfl) T.g_l_format_term T.F_l_format_term.kp T.b_l_format_term .nil pass0 (pa_cons (pv 4) pa_nil)))
          (pss_cons (ps_for PassesOwn.never rfl (pi_range1 (by rfl) T.n_range (pa_cons pe_int pa_nil)) (pg_name (i := 6) sc_p_law.nd rfl (by first | exact Or.inl rfl | exact Or.inr rfl)) (pss_one (ps_if (pt_not (pt_val (pe_call G_l_equal (hr.mono (by first | decide | omega)) (by rfl) T.g_l_equal T.F_l_equal.kp T.b_l_equal .nil pass0 (pa_cons (pe_lst (pa_cons (pe_call G_p_format_term (hr.mono (by first | decide | omega)) (by rfl) T.g_p_format_term T.F_p_format_term.kp T.b_p_format_term .nil pass0 (pa_cons (pv 4) pa_nil)) (pa_cons (pe_call G_p_parse_term (hr.mono (by first | decide | omega)) (by rfl) T.g_p_parse_term T.F_p_parse_term.kp T.b_p_parse_term .nil pass0 (pa_cons (pv 5) pa_nil)) pa_nil))) (pa_cons (pe_lst (pa_cons (pv 5) (pa_cons (pv 4) pa_nil))) pa_nil))))) (pss_one (ps_ret pe_bl)) pss_nil)))
          (pss_one (ps_if (pt_not (pt_val (pe_call G_l_equal (hr.mono (by first | decide | omega)) (by rfl) T.g_l_equal T.F_l_equal.kp T.b_l_equal .nil pass0 (pa_cons (pe_lst (pa_cons (pe_callN0 G_p_format_term (hr.mono (by first | decide | omega)) (by rfl) T.g_p_format_term T.F_p_format_term.kp kb_p_format_term_0_term pass0 (pk_cons (pv 4) pk_nil)) (pa_cons (pe_callN0 G_p_parse_term (hr.mono (by first | decide | omega)) (by rfl) T.g_p_parse_term T.F_p_parse_term.kp kb_p_parse_term_0_text pass0 (pk_cons (pv 5) pk_nil)) pa_nil))) (pa_cons (pe_lst (pa_cons (pv 5) (pa_cons (pv 4) pa_nil))) pa_nil))))) (pss_one (ps_ret pe_bl)) pss_nil)))))))))
          (pss_one (ps_ret (pe_call G_l_equal (hr.mono (by first | decide | omega)) (by rfl) T.g_l_equal T.F_l_equal.kp T.b_l_equal .nil pass0 (pa_cons (pe_call G_p_parse_term (hr.mono (by first | decide | omega)) (by rfl) T.g_p_parse_term T.F_p_parse_term.kp T.b_p_parse_term .nil pass0 (pa_cons pe_str pa_nil)) (pa_cons (pe_tup (pa_cons pe_str (pa_cons (pe_tup (pa_cons (pe_tup (pa_cons pe_int (pa_cons pe_int pa_nil))) (pa_cons (pe_tup (pa_cons pe_str (pa_cons (pe_tup (pa_cons pe_str (pa_cons pe_str pa_nil))) (pa_cons (pe_tup (pa_cons pe_int (pa_cons pe_int pa_nil))) pa_nil)))) pa_nil))) (pa_cons (pe_tup (pa_cons (pe_tup (pa_cons pe_int (pa_cons pe_int pa_nil))) (pa_cons (pe_tup (pa_cons pe_str (pa_cons (pe_tup (pa_cons pe_str (pa_cons (pe_tup (pa_cons pe_str (pa_cons pe_str pa_nil))) pa_nil))) (pa_cons (pe_tup (pa_cons (pe_un un_neg pe_int) (pa_cons pe_int pa_nil))) pa_nil)))) pa_nil))) pa_nil)))) pa_nil))))))), ?_⟩
    refine ⟨.ref b, rfl, b, ns, rfl, hS, hlen, fun H0 r s0 nr R0 => ?_⟩
    refine ⟨5, rfl, by decide, by decide, for_range (n := 5) (fun _ σ H' => ∃ y2 y3 y4 y5 y6, σ = [some (.ref b), some (.ref r), y2, y3, y4, y5, y6] ∧ Rg H' r) ⟨none, none, none, none, none, rfl, R0⟩ ?_ ?_⟩
    · rintro i σ H1 hi ⟨y2, y3, y4, y5, y6, rfl, R1⟩
      refine ⟨.ref r, rfl, r, 3, rfl, R1, by decide, by decide, fun nl H2 ss k2 R2 hnl nlr ssl nd nm => ?_⟩
      refine ⟨.ref r, rfl, .ref nl, rfl, .ref r, rfl, r, 4, rfl, R2, by decide, by decide, fun dd H3 d0 d1 k3 R3 => ⟨1, dd, rfl, rfl, ?_⟩⟩
      have hnl3 := k3.1 _ _ nlr hnl
      refine ⟨r, nl, ss, 1 + dd, rfl, R3, nlr, SqL.of hnl3, by omega, by omega, by show 1 + dd ≤ (3 : Int) + 1; omega, fun v0 H4 t0 k4 R4 ht0 hg0 => ?_⟩
      have hnl4 := k4.1 _ _ nlr hnl3
      refine go_name ?_
      dsimp only
      refine go_seq (go_asg ?_)
      refine both (te := tIf _ _ _) (fun v H' => ∃ t, Rg H' r ∧ FitT K H' ss v t) (fun v H5 h5 => ?_) (fun Q' hQ => ?_)
      rotate_left
      · refine ⟨.ref r, rfl, r, 3, rfl, R4, by decide, by decide, fun dz H5 z0 z1 k5 R5 => ⟨rfl, _, rfl, ite2 (fun e => ?_) (fun e => ?_)⟩⟩
        · exact ⟨.ref r, rfl, .ref nl, rfl, r, nl, ss, rfl, R5, nlr, SqL.of (k5.1 _ _ nlr hnl4), by omega, by omega, fun v6 H6 t6 k6 R6 f6 => hQ _ _ ⟨t6, R6, f6⟩⟩
        · exact ⟨v0, rfl, hQ _ _ ⟨t0, R5, Good.fit (ht0.kp R4 k5) hg0⟩⟩
      obtain ⟨t, R5, ft⟩ := h5
      have hw : RwAt K H5 12 v t.raw := ft.at'.rawV ft.vok fun s hs => by
        have := name_len (nm s (ft.fin s hs))
        omega
      refine ⟨v, rfl, v, t.raw, rfl, hw.le (by decide), fun H6 s6 => ⟨_, rfl, ?_⟩⟩
      have ok : (isT 10 t.raw && decide (t.raw.size ≤ 40)) = okT t.raw := rfl
      rw [ok]
      cases o : okT t.raw with
      | false => exact ifT rfl ⟨_, _, _, _, _, rfl, R5.same s6⟩
      | true =>
        refine ifF rfl ?_
        have o' := o
        unfold okT at o'
        rw [Bool.and_eq_true, decide_eq_true_eq] at o'
        have h10 : RwAt K H6 10 v t.raw := (hw.same s6).low o'.1
        have bd := txt_bd o'.1 h10.arw
        have pa := parse_txt h10.arw (by decide) o
        have zl : (SX.S t.raw.txt).length ≤ 3900 := by rw [S_len']; omega
        refine ⟨v, rfl, v, t.raw, rfl, h10, isT.fm o'.1, by omega, fun H7 s7 => ?_⟩
        -- one comparison
        have cmp : ∀ {Ha Hb : Hp} {u : V} {la lb : Addr}, RwAt K Hb 10 v t.raw → RwAt K Hb 10 u t.raw → SqL K Hb la [.str (SX.S t.raw.txt), u] → SqL K Hb lb [.str (SX.S t.raw.txt), v] → Eqd K Hb 30 (.ref la) (.ref lb) := by
          intro Ha Hb u la lb h1 h2 h3 h4
          exact (Eqd.lst (n := 20) h3 h4 rfl (by show 2 ≤ 100000; decide) (all2_cons (Eqd.atom rfl) (all2_cons (RwAt.eqd h2 h1) all2_nil))).mono (by decide)
        refine ⟨2, rfl, by decide, by decide, for_range (n := 2) (fun _ σ H' => ∃ y6, σ = [some (.ref b), some (.ref r), some (.int (0 + (i : Int))), some (.ref nl), some v, some (.str (SX.S t.raw.txt)), y6] ∧ Rg H' r ∧ RwAt K H' 10 v t.raw) ⟨_, rfl, R5.same (s6.trans s7), h10.same s7⟩ ?_ ?_⟩
        · rintro j σ H8 hj ⟨z6, rfl, R8, h8⟩
          refine ⟨v, rfl, v, t.raw, rfl, h8, isT.fm o'.1, by omega, fun Ha sa => ?_⟩
          refine ⟨_, rfl, SX.S t.raw.txt, t.raw, rfl, zl, pa, fun u Hb sb hu => ⟨sz (by show 2 ≤ 100000; decide), fun la nla => ?_⟩⟩
          have sla := Same.new (o := .lst [.str (SX.S t.raw.txt), u]) nla
          refine ⟨_, rfl, v, rfl, sz (by show 2 ≤ 100000; decide), fun lb nlb => ?_⟩
          have slb := Same.new (o := .lst [.str (SX.S t.raw.txt), v]) nlb
          have s9 := sa.trans (sb.trans (sla.trans slb))
          refine ⟨_, _, rfl, cmp (Ha := Ha) (h8.same s9) (hu.same (sla.trans slb)) (SqL.of (slb _ _ upd_same)) (SqL.of upd_same), fun Hc sc => ⟨true, rfl, iteF ?_⟩⟩
          exact ⟨_, rfl, R8.same (s9.trans sc), h8.same (s9.trans sc)⟩
        · rintro σ H8 ⟨z6, rfl, R8, h8⟩
          refine ⟨v, rfl, rfl, v, t.raw, rfl, h8, isT.fm o'.1, by omega, fun Ha sa => ?_⟩
          refine ⟨_, rfl, rfl, SX.S t.raw.txt, t.raw, rfl, zl, pa, fun u Hb sb hu => ⟨sz (by show 2 ≤ 100000; decide), fun la nla => ?_⟩⟩
          have sla := Same.new (o := .lst [.str (SX.S t.raw.txt), u]) nla
          refine ⟨_, rfl, v, rfl, sz (by show 2 ≤ 100000; decide), fun lb nlb => ?_⟩
          have slb := Same.new (o := .lst [.str (SX.S t.raw.txt), v]) nlb
          have s9 := sa.trans (sb.trans (sla.trans slb))
          refine ⟨_, _, rfl, cmp (Ha := Ha) (h8.same s9) (hu.same (sla.trans slb)) (SqL.of (slb _ _ upd_same)) (SqL.of upd_same), fun Hc sc => ⟨true, rfl, iteF ?_⟩⟩
          exact ⟨_, _, _, _, _, rfl, R8.same (s9.trans sc)⟩
    · rintro σ H1 ⟨y2, y3, y4, y5, y6, rfl, R1⟩
      have pa := parse_txt t9_ar (by decide) t9_ok
      rw [t9_txt] at pa
      refine ⟨_, t9, rfl, by decide +kernel, pa, fun v H2 s2 hv => ?_⟩
      have two := sz (n := 2) (by decide)
      have thr := sz (n := 3) (by decide)
      refine ⟨two, fun q1 nq1 => ⟨two, fun e1 ne1 => ⟨two, fun q2 nq2 => ⟨thr, fun d1 nd1 => ⟨two, fun t1 nt1 => ?_⟩⟩⟩⟩⟩
      refine ⟨two, fun q3 nq3 => ⟨two, fun e2 ne2 => ⟨two, fun m1 nm1 => ⟨_, rfl, two, fun q4 nq4 => ⟨thr, fun d2 nd2 => ⟨two, fun t2 nt2 => ⟨thr, fun p np => ?_⟩⟩⟩⟩⟩⟩⟩
      have S1 := Same.new (o := .tup [.int 1, .int 2]) nq1
      have S2 := Same.new (o := .tup [.str "event", .str "a"]) ne1
      have S3 := Same.new (o := .tup [.int 1, .int 2]) nq2
      have S4 := Same.new (o := .tup [.str "delay", .ref e1, .ref q2]) nd1
      have S5 := Same.new (o := .tup [.ref q1, .ref d1]) nt1
      have S6 := Same.new (o := .tup [.int 1, .int 2]) nq3
      have S7 := Same.new (o := .tup [.str "event", .str "b"]) ne2
      have S8 := Same.new (o := .tup [.str "max", .ref e2]) nm1
      have S9 := Same.new (o := .tup [.int (-3), .int 1]) nq4
      have S10 := Same.new (o := .tup [.str "delay", .ref m1, .ref q4]) nd2
      have S11 := Same.new (o := .tup [.ref q3, .ref d2]) nt2
      have S12 := Same.new (o := .tup [.str "mix", .ref t1, .ref t2]) np
      have Z11 := S12
      have Z10 := S11.trans Z11
      have Z9 := S10.trans Z10
      have Z8 := S9.trans Z9
      have Z7 := S8.trans Z8
      have Z6 := S7.trans Z7
      have Z5 := S6.trans Z6
      have Z4 := S5.trans Z5
      have Z3 := S4.trans Z4
      have Z2 := S3.trans Z3
      have Z1 := S2.trans Z2
      have Z0 := S1.trans Z1
      have b1 : (1 : Int).natAbs < 2 ^ 120 := by decide
      have b2 : (2 : Int).natAbs < 2 ^ 120 := by decide
      have b3 : (-3 : Int).natAbs < 2 ^ 120 := by decide
      have f1 := mkFr (K := K) (Same.T Z1 (sqN nq1)) b1 b2
      have f2 := mkFr (K := K) (Same.T Z3 (sqN nq2)) b1 b2
      have f3 := mkFr (K := K) (Same.T Z6 (sqN nq3)) b1 b2
      have f4 := mkFr (K := K) (Same.T Z9 (sqN nq4)) b3 b1
      have ev1 := mkEv (K := K) (m := 0) (ss := ["a"]) (by decide) (fun s hs => by rw [List.mem_singleton.mp hs]; decide +kernel) (Same.T Z2 (sqN ne1))
      have ev2 := mkEv (K := K) (m := 0) (ss := ["b"]) (by decide) (fun s hs => by rw [List.mem_singleton.mp hs]; decide +kernel) (Same.T Z7 (sqN ne2))
      have hd1 := (mkDl (Same.T Z4 (sqN nd1)) f2 ev1).up
      have hm1 := mkNn (k := "max") (by decide +kernel) (by decide +kernel) (by decide +kernel) (by decide) (Same.T Z8 (sqN nm1)) (All3.one ev2)
      have hd2 := mkDl (Same.T Z10 (sqN nd2)) f4 hm1
      have hp := OpsAt.node (K := K) (k := "mix") (n := 3) (xs := [.ref t1, .ref t2]) (os := [((1, 2), tD1), ((1, 2), tD2)]) (by decide +kernel) (by decide) (sqN np) (by
        rw [isMix_eq, decide_eq_true rfl]
        exact ⟨⟨t1, .ref q1, .ref d1, rfl, Same.T Z5 (sqN nt1), f1, hd1⟩, ⟨t2, .ref q3, .ref d2, rfl, Same.T Z11 (sqN nt2), f3, hd2⟩, trivial⟩)
      rw [t9_mk] at hp
      exact ⟨v, .ref p, rfl, ((hv.same Z0).eqd (hp.le (m := 10) (by decide))).mono (by decide), fun H5 _ => w H5⟩
end
theorem all_mk {l : PySem.W.OpenLaw} {w : World} {K : PySem.W.Frag} {h : Heap} {mg : Str → Option Value} {fa : Addr} (X : K.In h) (G : h.Ns mainGlobals mg) (hfa : mg "law" = some (.ref fa))
    {od0 an0 : Option Addr} {sl0 : Array (Option Value)} {oc0 kV0 dc0 pm0 cd0 ct0 : Value} {f0 : Addr}
    {od1 an1 : Option Addr} {sl1 : Array (Option Value)} {oc1 kV1 dc1 pm1 cd1 ct1 : Value} {f1 : Addr}
    {od2 an2 : Option Addr} {sl2 : Array (Option Value)} {oc2 kV2 dc2 pm2 cd2 ct2 : Value} {f2 : Addr}
    {od3 an3 : Option Addr} {sl3 : Array (Option Value)} {oc3 kV3 dc3 pm3 cd3 ct3 : Value} {f3 : Addr}
    {od4 an4 : Option Addr} {sl4 : Array (Option Value)} {oc4 dc4 pm4 cd4 ct4 : Value} {f4 : Addr}
    {od5 an5 : Option Addr} {sl5 : Array (Option Value)} {oc5 kV5 dc5 pm5 cd5 ct5 : Value} {f5 : Addr}
    {od6 an6 : Option Addr} {sl6 : Array (Option Value)} {oc6 kV6 dc6 pm6 cd6 ct6 : Value} {f6 : Addr}
    {od7 an7 : Option Addr} {sl7 : Array (Option Value)} {oc7 kV7 dc7 pm7 cd7 ct7 : Value} {f7 : Addr}
    {od8 an8 : Option Addr} {sl8 : Array (Option Value)} {oc8 kV8 dc8 pm8 cd8 ct8 : Value} {f8 : Addr}
    {od9 an9 : Option Addr} {sl9 : Array (Option Value)} {oc9 kV9 dc9 pm9 cd9 ct9 : Value} {f9 : Addr}
    {od10 an10 : Option Addr} {sl10 : Array (Option Value)} {oc10 kV10 dc10 pm10 cd10 ct10 : Value} {f10 : Addr}
    {od11 an11 : Option Addr} {sl11 : Array (Option Value)} {oc11 kV11 dc11 pm11 cd11 ct11 : Value} {f11 : Addr}
    {od12 an12 : Option Addr} {sl12 : Array (Option Value)} {oc12 kV12 dc12 pm12 cd12 ct12 : Value} {f12 : Addr}
    {od13 an13 : Option Addr} {sl13 : Array (Option Value)} {oc13 kV13 dc13 pm13 cd13 ct13 : Value} {f13 : Addr}
    {od14 an14 : Option Addr} {sl14 : Array (Option Value)} {oc14 kV14 dc14 pm14 cd14 ct14 : Value} {f14 : Addr}
    {od15 an15 : Option Addr} {sl15 : Array (Option Value)} {oc15 kV15 dc15 pm15 cd15 ct15 : Value} {f15 : Addr}
    {od16 an16 : Option Addr} {sl16 : Array (Option Value)} {oc16 kV16 dc16 pm16 cd16 ct16 : Value} {f16 : Addr}
    {od17 an17 : Option Addr} {sl17 : Array (Option Value)} {oc17 kV17 dc17 pm17 cd17 ct17 : Value} {f17 : Addr}
    {od18 an18 : Option Addr} {sl18 : Array (Option Value)} {oc18 kV18 dc18 pm18 cd18 ct18 : Value} {f18 : Addr}
    {od19 an19 : Option Addr} {sl19 : Array (Option Value)} {oc19 kV19 dc19 pm19 cd19 ct19 : Value} {f19 : Addr}
    {od20 an20 : Option Addr} {sl20 : Array (Option Value)} {oc20 kV20 dc20 pm20 cd20 ct20 : Value} {f20 : Addr}
    {od21 an21 : Option Addr} {sl21 : Array (Option Value)} {oc21 kV21 dc21 pm21 cd21 ct21 : Value} {f21 : Addr}
    {od22 an22 : Option Addr} {sl22 : Array (Option Value)} {oc22 kV22 dc22 pm22 cd22 ct22 : Value} {f22 : Addr}
    {od23 an23 : Option Addr} {sl23 : Array (Option Value)} {oc23 kV23 dc23 pm23 cd23 ct23 : Value} {f23 : Addr}
    {od24 an24 : Option Addr} {sl24 : Array (Option Value)} {oc24 kV24 dc24 pm24 cd24 ct24 : Value} {f24 : Addr}
    {od25 an25 : Option Addr} {sl25 : Array (Option Value)} {oc25 kV25 dc25 pm25 cd25 ct25 : Value} {f25 : Addr}
    {od26 an26 : Option Addr} {sl26 : Array (Option Value)} {oc26 kV26 dc26 pm26 cd26 ct26 : Value} {f26 : Addr}
    {od27 an27 : Option Addr} {sl27 : Array (Option Value)} {oc27 kV27 dc27 pm27 cd27 ct27 : Value} {f27 : Addr}
    {od28 an28 : Option Addr} {sl28 : Array (Option Value)} {oc28 kV28 dc28 pm28 cd28 ct28 : Value} {f28 : Addr}
    {od29 an29 : Option Addr} {sl29 : Array (Option Value)} {oc29 kV29 dc29 pm29 cd29 ct29 : Value} {f29 : Addr}
    {od30 an30 : Option Addr} {sl30 : Array (Option Value)} {oc30 kV30 dc30 pm30 cd30 ct30 : Value} {f30 : Addr}
    {od31 an31 : Option Addr} {sl31 : Array (Option Value)} {oc31 kV31 dc31 pm31 cd31 ct31 : Value} {f31 : Addr}
    {od32 an32 : Option Addr} {sl32 : Array (Option Value)} {oc32 kV32 dc32 pm32 cd32 ct32 : Value} {f32 : Addr}
    {od33 an33 : Option Addr} {sl33 : Array (Option Value)} {oc33 kV33 dc33 pm33 cd33 ct33 : Value} {f33 : Addr}
    {od34 an34 : Option Addr} {sl34 : Array (Option Value)} {oc34 kV34 dc34 pm34 cd34 ct34 : Value} {f34 : Addr}
    {od35 an35 : Option Addr} {sl35 : Array (Option Value)} {oc35 kV35 dc35 pm35 cd35 ct35 : Value} {f35 : Addr}
    {od36 an36 : Option Addr} {sl36 : Array (Option Value)} {oc36 kV36 dc36 pm36 cd36 ct36 : Value} {f36 : Addr}
    {od37 an37 : Option Addr} {sl37 : Array (Option Value)} {oc37 kV37 dc37 pm37 cd37 ct37 : Value} {f37 : Addr}
    {od38 an38 : Option Addr} {sl38 : Array (Option Value)} {oc38 kV38 dc38 pm38 cd38 ct38 : Value} {f38 : Addr}
    {od39 an39 : Option Addr} {sl39 : Array (Option Value)} {oc39 kV39 dc39 pm39 cd39 ct39 : Value} {f39 : Addr}
    {od40 an40 : Option Addr} {sl40 : Array (Option Value)} {oc40 kV40 dc40 pm40 cd40 ct40 : Value} {f40 : Addr}
    {od41 an41 : Option Addr} {sl41 : Array (Option Value)} {oc41 kV41 dc41 pm41 cd41 ct41 : Value} {f41 : Addr}
    {od42 an42 : Option Addr} {sl42 : Array (Option Value)} {oc42 kV42 dc42 pm42 cd42 ct42 : Value} {f42 : Addr}
    {od43 an43 : Option Addr} {sl43 : Array (Option Value)} {oc43 kV43 dc43 pm43 cd43 ct43 : Value} {f43 : Addr}
    {od44 an44 : Option Addr} {sl44 : Array (Option Value)} {oc44 kV44 dc44 pm44 cd44 ct44 : Value} {f44 : Addr}
    {od45 an45 : Option Addr} {sl45 : Array (Option Value)} {oc45 kV45 dc45 pm45 cd45 ct45 : Value} {f45 : Addr}
    {od46 an46 : Option Addr} {sl46 : Array (Option Value)} {oc46 kV46 dc46 pm46 cd46 ct46 : Value} {f46 : Addr}
    {od47 an47 : Option Addr} {sl47 : Array (Option Value)} {oc47 kV47 dc47 pm47 cd47 ct47 : Value} {f47 : Addr}
    {od48 an48 : Option Addr} {sl48 : Array (Option Value)} {oc48 kV48 dc48 pm48 cd48 ct48 : Value} {f48 : Addr}
    {od49 an49 : Option Addr} {sl49 : Array (Option Value)} {oc49 kV49 dc49 pm49 cd49 ct49 : Value} {f49 : Addr}
    {od50 an50 : Option Addr} {sl50 : Array (Option Value)} {oc50 kV50 dc50 pm50 cd50 ct50 : Value} {f50 : Addr}
    {dT1 : Addr} {do1 : Option Addr} {dn1 : Nat} {ds1 : Array (Option Value)} {dt1_0 : Tok}
    {kD4 : Addr}
    {o_ZERO : Addr} {od_ZERO : Option Addr} {on_ZERO : Nat} {os_ZERO : Array (Option Value)} {tk_ZERO_0 tk_ZERO_1 : Tok}
    {tk_MAX_DIGITS : Tok}
    {o_KEYWORDS : Addr} {od_KEYWORDS : Option Addr} {on_KEYWORDS : Nat} {os_KEYWORDS : Array (Option Value)} {tk_KEYWORDS_0 tk_KEYWORDS_1 tk_KEYWORDS_2 tk_KEYWORDS_3 : Tok}
    {tk_MAX_NAME : Tok}
    {tk_MAX_SIDE : Tok}
    {tk_MAX_OPERANDS : Tok}
    {tk_MAX_SIZE : Tok}
    {tk_MAX_DEPTH : Tok}
    {tk_FRACTION_SIGNS : Tok}
    {tk_LETTERS : Tok}
    (a0 : PySem.W.nsIn K mainGlobals "greatest_divisor" = some (some (.ref f0)))
    (l0 : K.lookup f0 = some ⟨oc0, od0, .func (PySem.W.fnOf "greatest_divisor" "greatest_divisor" (defArgs s_p_greatest_divisor) (defBody s_p_greatest_divisor) (defScope s_p_greatest_divisor) .none kV0 dc0 pm0 an0 cd0 ct0), sl0⟩) (c0 : PySem.W.codeIn K cd0 "greatest_divisor" = true) (k0 : PySem.W.keepIn K (.ref f0) = true)
    (a1 : PySem.W.nsIn K mainGlobals "fraction" = some (some (.ref f1)))
    (l1 : K.lookup f1 = some ⟨oc1, od1, .func (PySem.W.fnOf "fraction" "fraction" (defArgs s_p_fraction) (defBody s_p_fraction) (defScope s_p_fraction) (.ref dT1) kV1 dc1 pm1 an1 cd1 ct1), sl1⟩) (c1 : PySem.W.codeIn K cd1 "fraction" = true) (k1 : PySem.W.keepIn K (.ref f1) = true)
    (d1 : K.lookup dT1 = some ⟨.type "tuple", do1, .seq #[.int 1 dt1_0] dn1, ds1⟩)
    (a2 : PySem.W.nsIn K mainGlobals "add" = some (some (.ref f2)))
    (l2 : K.lookup f2 = some ⟨oc2, od2, .func (PySem.W.fnOf "add" "add" (defArgs s_p_add) (defBody s_p_add) (defScope s_p_add) .none kV2 dc2 pm2 an2 cd2 ct2), sl2⟩) (c2 : PySem.W.codeIn K cd2 "add" = true) (k2 : PySem.W.keepIn K (.ref f2) = true)
    (a3 : PySem.W.nsIn K mainGlobals "is_less" = some (some (.ref f3)))
    (l3 : K.lookup f3 = some ⟨oc3, od3, .func (PySem.W.fnOf "is_less" "is_less" (defArgs s_p_is_less) (defBody s_p_is_less) (defScope s_p_is_less) .none kV3 dc3 pm3 an3 cd3 ct3), sl3⟩) (c3 : PySem.W.codeIn K cd3 "is_less" = true) (k3 : PySem.W.keepIn K (.ref f3) = true)
    (a4 : PySem.W.nsIn K mainGlobals "total" = some (some (.ref f4)))
    (l4 : K.lookup f4 = some ⟨oc4, od4, .func (PySem.W.fnOf "total" "total" (defArgs s_p_total) (defBody s_p_total) (defScope s_p_total) .none (.ref kD4) dc4 pm4 an4 cd4 ct4), sl4⟩) (c4 : PySem.W.codeIn K cd4 "total" = true) (k4 : PySem.W.keepIn K (.ref f4) = true)
    (kd4_0 : PySem.W.nsIn K kD4 "start" = some (some (.ref o_ZERO)))
    (a5 : PySem.W.nsIn K mainGlobals "format_fraction" = some (some (.ref f5)))
    (l5 : K.lookup f5 = some ⟨oc5, od5, .func (PySem.W.fnOf "format_fraction" "format_fraction" (defArgs s_p_format_fraction) (defBody s_p_format_fraction) (defScope s_p_format_fraction) .none kV5 dc5 pm5 an5 cd5 ct5), sl5⟩) (c5 : PySem.W.codeIn K cd5 "format_fraction" = true) (k5 : PySem.W.keepIn K (.ref f5) = true)
    (a6 : PySem.W.nsIn K mainGlobals "is_digits" = some (some (.ref f6)))
    (l6 : K.lookup f6 = some ⟨oc6, od6, .func (PySem.W.fnOf "is_digits" "is_digits" (defArgs s_p_is_digits) (defBody s_p_is_digits) (defScope s_p_is_digits) .none kV6 dc6 pm6 an6 cd6 ct6), sl6⟩) (c6 : PySem.W.codeIn K cd6 "is_digits" = true) (k6 : PySem.W.keepIn K (.ref f6) = true)
    (a7 : PySem.W.nsIn K mainGlobals "parse_fraction" = some (some (.ref f7)))
    (l7 : K.lookup f7 = some ⟨oc7, od7, .func (PySem.W.fnOf "parse_fraction" "parse_fraction" (defArgs s_p_parse_fraction) (defBody s_p_parse_fraction) (defScope s_p_parse_fraction) .none kV7 dc7 pm7 an7 cd7 ct7), sl7⟩) (c7 : PySem.W.codeIn K cd7 "parse_fraction" = true) (k7 : PySem.W.keepIn K (.ref f7) = true)
    (a8 : PySem.W.nsIn K mainGlobals "is_valid_name" = some (some (.ref f8)))
    (l8 : K.lookup f8 = some ⟨oc8, od8, .func (PySem.W.fnOf "is_valid_name" "is_valid_name" (defArgs s_p_is_valid_name) (defBody s_p_is_valid_name) (defScope s_p_is_valid_name) .none kV8 dc8 pm8 an8 cd8 ct8), sl8⟩) (c8 : PySem.W.codeIn K cd8 "is_valid_name" = true) (k8 : PySem.W.keepIn K (.ref f8) = true)
    (a9 : PySem.W.nsIn K mainGlobals "is_number" = some (some (.ref f9)))
    (l9 : K.lookup f9 = some ⟨oc9, od9, .func (PySem.W.fnOf "is_number" "is_number" (defArgs s_p_is_number) (defBody s_p_is_number) (defScope s_p_is_number) .none kV9 dc9 pm9 an9 cd9 ct9), sl9⟩) (c9 : PySem.W.codeIn K cd9 "is_number" = true) (k9 : PySem.W.keepIn K (.ref f9) = true)
    (a10 : PySem.W.nsIn K mainGlobals "is_term_fraction" = some (some (.ref f10)))
    (l10 : K.lookup f10 = some ⟨oc10, od10, .func (PySem.W.fnOf "is_term_fraction" "is_term_fraction" (defArgs s_p_is_term_fraction) (defBody s_p_is_term_fraction) (defScope s_p_is_term_fraction) .none kV10 dc10 pm10 an10 cd10 ct10), sl10⟩) (c10 : PySem.W.codeIn K cd10 "is_term_fraction" = true) (k10 : PySem.W.keepIn K (.ref f10) = true)
    (a11 : PySem.W.nsIn K mainGlobals "is_weighted" = some (some (.ref f11)))
    (l11 : K.lookup f11 = some ⟨oc11, od11, .func (PySem.W.fnOf "is_weighted" "is_weighted" (defArgs s_p_is_weighted) (defBody s_p_is_weighted) (defScope s_p_is_weighted) .none kV11 dc11 pm11 an11 cd11 ct11), sl11⟩) (c11 : PySem.W.codeIn K cd11 "is_weighted" = true) (k11 : PySem.W.keepIn K (.ref f11) = true)
    (a12 : PySem.W.nsIn K mainGlobals "is_mixture" = some (some (.ref f12)))
    (l12 : K.lookup f12 = some ⟨oc12, od12, .func (PySem.W.fnOf "is_mixture" "is_mixture" (defArgs s_p_is_mixture) (defBody s_p_is_mixture) (defScope s_p_is_mixture) .none kV12 dc12 pm12 an12 cd12 ct12), sl12⟩) (c12 : PySem.W.codeIn K cd12 "is_mixture" = true) (k12 : PySem.W.keepIn K (.ref f12) = true)
    (a13 : PySem.W.nsIn K mainGlobals "has_term_form" = some (some (.ref f13)))
    (l13 : K.lookup f13 = some ⟨oc13, od13, .func (PySem.W.fnOf "has_term_form" "has_term_form" (defArgs s_p_has_term_form) (defBody s_p_has_term_form) (defScope s_p_has_term_form) .none kV13 dc13 pm13 an13 cd13 ct13), sl13⟩) (c13 : PySem.W.codeIn K cd13 "has_term_form" = true) (k13 : PySem.W.keepIn K (.ref f13) = true)
    (a14 : PySem.W.nsIn K mainGlobals "subterms" = some (some (.ref f14)))
    (l14 : K.lookup f14 = some ⟨oc14, od14, .func (PySem.W.fnOf "subterms" "subterms" (defArgs s_p_subterms) (defBody s_p_subterms) (defScope s_p_subterms) .none kV14 dc14 pm14 an14 cd14 ct14), sl14⟩) (c14 : PySem.W.codeIn K cd14 "subterms" = true) (k14 : PySem.W.keepIn K (.ref f14) = true)
    (a15 : PySem.W.nsIn K mainGlobals "is_valid_term" = some (some (.ref f15)))
    (l15 : K.lookup f15 = some ⟨oc15, od15, .func (PySem.W.fnOf "is_valid_term" "is_valid_term" (defArgs s_p_is_valid_term) (defBody s_p_is_valid_term) (defScope s_p_is_valid_term) .none kV15 dc15 pm15 an15 cd15 ct15), sl15⟩) (c15 : PySem.W.codeIn K cd15 "is_valid_term" = true) (k15 : PySem.W.keepIn K (.ref f15) = true)
    (a16 : PySem.W.nsIn K mainGlobals "format_delay" = some (some (.ref f16)))
    (l16 : K.lookup f16 = some ⟨oc16, od16, .func (PySem.W.fnOf "format_delay" "format_delay" (defArgs s_p_format_delay) (defBody s_p_format_delay) (defScope s_p_format_delay) .none kV16 dc16 pm16 an16 cd16 ct16), sl16⟩) (c16 : PySem.W.codeIn K cd16 "format_delay" = true) (k16 : PySem.W.keepIn K (.ref f16) = true)
    (a17 : PySem.W.nsIn K mainGlobals "format_term" = some (some (.ref f17)))
    (l17 : K.lookup f17 = some ⟨oc17, od17, .func (PySem.W.fnOf "format_term" "format_term" (defArgs s_p_format_term) (defBody s_p_format_term) (defScope s_p_format_term) .none kV17 dc17 pm17 an17 cd17 ct17), sl17⟩) (c17 : PySem.W.codeIn K cd17 "format_term" = true) (k17 : PySem.W.keepIn K (.ref f17) = true)
    (a18 : PySem.W.nsIn K mainGlobals "end_of_run" = some (some (.ref f18)))
    (l18 : K.lookup f18 = some ⟨oc18, od18, .func (PySem.W.fnOf "end_of_run" "end_of_run" (defArgs s_p_end_of_run) (defBody s_p_end_of_run) (defScope s_p_end_of_run) .none kV18 dc18 pm18 an18 cd18 ct18), sl18⟩) (c18 : PySem.W.codeIn K cd18 "end_of_run" = true) (k18 : PySem.W.keepIn K (.ref f18) = true)
    (a19 : PySem.W.nsIn K mainGlobals "skip" = some (some (.ref f19)))
    (l19 : K.lookup f19 = some ⟨oc19, od19, .func (PySem.W.fnOf "skip" "skip" (defArgs s_p_skip) (defBody s_p_skip) (defScope s_p_skip) .none kV19 dc19 pm19 an19 cd19 ct19), sl19⟩) (c19 : PySem.W.codeIn K cd19 "skip" = true) (k19 : PySem.W.keepIn K (.ref f19) = true)
    (a20 : PySem.W.nsIn K mainGlobals "read_fraction" = some (some (.ref f20)))
    (l20 : K.lookup f20 = some ⟨oc20, od20, .func (PySem.W.fnOf "read_fraction" "read_fraction" (defArgs s_p_read_fraction) (defBody s_p_read_fraction) (defScope s_p_read_fraction) .none kV20 dc20 pm20 an20 cd20 ct20), sl20⟩) (c20 : PySem.W.codeIn K cd20 "read_fraction" = true) (k20 : PySem.W.keepIn K (.ref f20) = true)
    (a21 : PySem.W.nsIn K mainGlobals "read_delays" = some (some (.ref f21)))
    (l21 : K.lookup f21 = some ⟨oc21, od21, .func (PySem.W.fnOf "read_delays" "read_delays" (defArgs s_p_read_delays) (defBody s_p_read_delays) (defScope s_p_read_delays) .none kV21 dc21 pm21 an21 cd21 ct21), sl21⟩) (c21 : PySem.W.codeIn K cd21 "read_delays" = true) (k21 : PySem.W.keepIn K (.ref f21) = true)
    (a22 : PySem.W.nsIn K mainGlobals "read_operand" = some (some (.ref f22)))
    (l22 : K.lookup f22 = some ⟨oc22, od22, .func (PySem.W.fnOf "read_operand" "read_operand" (defArgs s_p_read_operand) (defBody s_p_read_operand) (defScope s_p_read_operand) .none kV22 dc22 pm22 an22 cd22 ct22), sl22⟩) (c22 : PySem.W.codeIn K cd22 "read_operand" = true) (k22 : PySem.W.keepIn K (.ref f22) = true)
    (a23 : PySem.W.nsIn K mainGlobals "read_operands" = some (some (.ref f23)))
    (l23 : K.lookup f23 = some ⟨oc23, od23, .func (PySem.W.fnOf "read_operands" "read_operands" (defArgs s_p_read_operands) (defBody s_p_read_operands) (defScope s_p_read_operands) .none kV23 dc23 pm23 an23 cd23 ct23), sl23⟩) (c23 : PySem.W.codeIn K cd23 "read_operands" = true) (k23 : PySem.W.keepIn K (.ref f23) = true)
    (a24 : PySem.W.nsIn K mainGlobals "read_term" = some (some (.ref f24)))
    (l24 : K.lookup f24 = some ⟨oc24, od24, .func (PySem.W.fnOf "read_term" "read_term" (defArgs s_p_read_term) (defBody s_p_read_term) (defScope s_p_read_term) .none kV24 dc24 pm24 an24 cd24 ct24), sl24⟩) (c24 : PySem.W.codeIn K cd24 "read_term" = true) (k24 : PySem.W.keepIn K (.ref f24) = true)
    (a25 : PySem.W.nsIn K mainGlobals "parse_term" = some (some (.ref f25)))
    (l25 : K.lookup f25 = some ⟨oc25, od25, .func (PySem.W.fnOf "parse_term" "parse_term" (defArgs s_p_parse_term) (defBody s_p_parse_term) (defScope s_p_parse_term) .none kV25 dc25 pm25 an25 cd25 ct25), sl25⟩) (c25 : PySem.W.codeIn K cd25 "parse_term" = true) (k25 : PySem.W.keepIn K (.ref f25) = true)
    (a26 : PySem.W.nsIn K mainGlobals "_law_source" = some (some (.ref f26)))
    (l26 : K.lookup f26 = some ⟨oc26, od26, .func (PySem.W.fnOf "_law_source" "_law_source" (defArgs s_l_source) (defBody s_l_source) (defScope s_l_source) .none kV26 dc26 pm26 an26 cd26 ct26), sl26⟩) (c26 : PySem.W.codeIn K cd26 "_law_source" = true) (k26 : PySem.W.keepIn K (.ref f26) = true)
    (a27 : PySem.W.nsIn K mainGlobals "_law_draw" = some (some (.ref f27)))
    (l27 : K.lookup f27 = some ⟨oc27, od27, .func (PySem.W.fnOf "_law_draw" "_law_draw" (defArgs s_l_draw) (defBody s_l_draw) (defScope s_l_draw) .none kV27 dc27 pm27 an27 cd27 ct27), sl27⟩) (c27 : PySem.W.codeIn K cd27 "_law_draw" = true) (k27 : PySem.W.keepIn K (.ref f27) = true)
    (a28 : PySem.W.nsIn K mainGlobals "_law_choice" = some (some (.ref f28)))
    (l28 : K.lookup f28 = some ⟨oc28, od28, .func (PySem.W.fnOf "_law_choice" "_law_choice" (defArgs s_l_choice) (defBody s_l_choice) (defScope s_l_choice) .none kV28 dc28 pm28 an28 cd28 ct28), sl28⟩) (c28 : PySem.W.codeIn K cd28 "_law_choice" = true) (k28 : PySem.W.keepIn K (.ref f28) = true)
    (a29 : PySem.W.nsIn K mainGlobals "_law_shuffled" = some (some (.ref f29)))
    (l29 : K.lookup f29 = some ⟨oc29, od29, .func (PySem.W.fnOf "_law_shuffled" "_law_shuffled" (defArgs s_l_shuffled) (defBody s_l_shuffled) (defScope s_l_shuffled) .none kV29 dc29 pm29 an29 cd29 ct29), sl29⟩) (c29 : PySem.W.codeIn K cd29 "_law_shuffled" = true) (k29 : PySem.W.keepIn K (.ref f29) = true)
    (a30 : PySem.W.nsIn K mainGlobals "_law_equal" = some (some (.ref f30)))
    (l30 : K.lookup f30 = some ⟨oc30, od30, .func (PySem.W.fnOf "_law_equal" "_law_equal" (defArgs s_l_equal) (defBody s_l_equal) (defScope s_l_equal) .none kV30 dc30 pm30 an30 cd30 ct30), sl30⟩) (c30 : PySem.W.codeIn K cd30 "_law_equal" = true) (k30 : PySem.W.keepIn K (.ref f30) = true)
    (a31 : PySem.W.nsIn K mainGlobals "_law_reduce" = some (some (.ref f31)))
    (l31 : K.lookup f31 = some ⟨oc31, od31, .func (PySem.W.fnOf "_law_reduce" "_law_reduce" (defArgs s_l_reduce) (defBody s_l_reduce) (defScope s_l_reduce) .none kV31 dc31 pm31 an31 cd31 ct31), sl31⟩) (c31 : PySem.W.codeIn K cd31 "_law_reduce" = true) (k31 : PySem.W.keepIn K (.ref f31) = true)
    (a32 : PySem.W.nsIn K mainGlobals "_law_add" = some (some (.ref f32)))
    (l32 : K.lookup f32 = some ⟨oc32, od32, .func (PySem.W.fnOf "_law_add" "_law_add" (defArgs s_l_add) (defBody s_l_add) (defScope s_l_add) .none kV32 dc32 pm32 an32 cd32 ct32), sl32⟩) (c32 : PySem.W.codeIn K cd32 "_law_add" = true) (k32 : PySem.W.keepIn K (.ref f32) = true)
    (a33 : PySem.W.nsIn K mainGlobals "_law_sum" = some (some (.ref f33)))
    (l33 : K.lookup f33 = some ⟨oc33, od33, .func (PySem.W.fnOf "_law_sum" "_law_sum" (defArgs s_l_sum) (defBody s_l_sum) (defScope s_l_sum) .none kV33 dc33 pm33 an33 cd33 ct33), sl33⟩) (c33 : PySem.W.codeIn K cd33 "_law_sum" = true) (k33 : PySem.W.keepIn K (.ref f33) = true)
    (a34 : PySem.W.nsIn K mainGlobals "_law_abs" = some (some (.ref f34)))
    (l34 : K.lookup f34 = some ⟨oc34, od34, .func (PySem.W.fnOf "_law_abs" "_law_abs" (defArgs s_l_abs) (defBody s_l_abs) (defScope s_l_abs) .none kV34 dc34 pm34 an34 cd34 ct34), sl34⟩) (c34 : PySem.W.codeIn K cd34 "_law_abs" = true) (k34 : PySem.W.keepIn K (.ref f34) = true)
    (a35 : PySem.W.nsIn K mainGlobals "_law_small" = some (some (.ref f35)))
    (l35 : K.lookup f35 = some ⟨oc35, od35, .func (PySem.W.fnOf "_law_small" "_law_small" (defArgs s_l_small) (defBody s_l_small) (defScope s_l_small) .none kV35 dc35 pm35 an35 cd35 ct35), sl35⟩) (c35 : PySem.W.codeIn K cd35 "_law_small" = true) (k35 : PySem.W.keepIn K (.ref f35) = true)
    (a36 : PySem.W.nsIn K mainGlobals "_law_letters" = some (some (.ref f36)))
    (l36 : K.lookup f36 = some ⟨oc36, od36, .func (PySem.W.fnOf "_law_letters" "_law_letters" (defArgs s_l_letters) (defBody s_l_letters) (defScope s_l_letters) .none kV36 dc36 pm36 an36 cd36 ct36), sl36⟩) (c36 : PySem.W.codeIn K cd36 "_law_letters" = true) (k36 : PySem.W.keepIn K (.ref f36) = true)
    (a37 : PySem.W.nsIn K mainGlobals "_law_is_name" = some (some (.ref f37)))
    (l37 : K.lookup f37 = some ⟨oc37, od37, .func (PySem.W.fnOf "_law_is_name" "_law_is_name" (defArgs s_l_is_name) (defBody s_l_is_name) (defScope s_l_is_name) .none kV37 dc37 pm37 an37 cd37 ct37), sl37⟩) (c37 : PySem.W.codeIn K cd37 "_law_is_name" = true) (k37 : PySem.W.keepIn K (.ref f37) = true)
    (a38 : PySem.W.nsIn K mainGlobals "_law_plain" = some (some (.ref f38)))
    (l38 : K.lookup f38 = some ⟨oc38, od38, .func (PySem.W.fnOf "_law_plain" "_law_plain" (defArgs s_l_plain) (defBody s_l_plain) (defScope s_l_plain) .none kV38 dc38 pm38 an38 cd38 ct38), sl38⟩) (c38 : PySem.W.codeIn K cd38 "_law_plain" = true) (k38 : PySem.W.keepIn K (.ref f38) = true)
    (a39 : PySem.W.nsIn K mainGlobals "_law_names" = some (some (.ref f39)))
    (l39 : K.lookup f39 = some ⟨oc39, od39, .func (PySem.W.fnOf "_law_names" "_law_names" (defArgs s_l_names) (defBody s_l_names) (defScope s_l_names) .none kV39 dc39 pm39 an39 cd39 ct39), sl39⟩) (c39 : PySem.W.codeIn K cd39 "_law_names" = true) (k39 : PySem.W.keepIn K (.ref f39) = true)
    (a40 : PySem.W.nsIn K mainGlobals "_law_operands" = some (some (.ref f40)))
    (l40 : K.lookup f40 = some ⟨oc40, od40, .func (PySem.W.fnOf "_law_operands" "_law_operands" (defArgs s_l_operands) (defBody s_l_operands) (defScope s_l_operands) .none kV40 dc40 pm40 an40 cd40 ct40), sl40⟩) (c40 : PySem.W.codeIn K cd40 "_law_operands" = true) (k40 : PySem.W.keepIn K (.ref f40) = true)
    (a41 : PySem.W.nsIn K mainGlobals "_law_size" = some (some (.ref f41)))
    (l41 : K.lookup f41 = some ⟨oc41, od41, .func (PySem.W.fnOf "_law_size" "_law_size" (defArgs s_l_size) (defBody s_l_size) (defScope s_l_size) .none kV41 dc41 pm41 an41 cd41 ct41), sl41⟩) (c41 : PySem.W.codeIn K cd41 "_law_size" = true) (k41 : PySem.W.keepIn K (.ref f41) = true)
    (a42 : PySem.W.nsIn K mainGlobals "_law_shares" = some (some (.ref f42)))
    (l42 : K.lookup f42 = some ⟨oc42, od42, .func (PySem.W.fnOf "_law_shares" "_law_shares" (defArgs s_l_shares) (defBody s_l_shares) (defScope s_l_shares) .none kV42 dc42 pm42 an42 cd42 ct42), sl42⟩) (c42 : PySem.W.codeIn K cd42 "_law_shares" = true) (k42 : PySem.W.keepIn K (.ref f42) = true)
    (a43 : PySem.W.nsIn K mainGlobals "_law_term" = some (some (.ref f43)))
    (l43 : K.lookup f43 = some ⟨oc43, od43, .func (PySem.W.fnOf "_law_term" "_law_term" (defArgs s_l_term) (defBody s_l_term) (defScope s_l_term) .none kV43 dc43 pm43 an43 cd43 ct43), sl43⟩) (c43 : PySem.W.codeIn K cd43 "_law_term" = true) (k43 : PySem.W.keepIn K (.ref f43) = true)
    (a44 : PySem.W.nsIn K mainGlobals "_law_format_fraction" = some (some (.ref f44)))
    (l44 : K.lookup f44 = some ⟨oc44, od44, .func (PySem.W.fnOf "_law_format_fraction" "_law_format_fraction" (defArgs s_l_format_fraction) (defBody s_l_format_fraction) (defScope s_l_format_fraction) .none kV44 dc44 pm44 an44 cd44 ct44), sl44⟩) (c44 : PySem.W.codeIn K cd44 "_law_format_fraction" = true) (k44 : PySem.W.keepIn K (.ref f44) = true)
    (a45 : PySem.W.nsIn K mainGlobals "_law_format_term" = some (some (.ref f45)))
    (l45 : K.lookup f45 = some ⟨oc45, od45, .func (PySem.W.fnOf "_law_format_term" "_law_format_term" (defArgs s_l_format_term) (defBody s_l_format_term) (defScope s_l_format_term) .none kV45 dc45 pm45 an45 cd45 ct45), sl45⟩) (c45 : PySem.W.codeIn K cd45 "_law_format_term" = true) (k45 : PySem.W.keepIn K (.ref f45) = true)
    (a46 : PySem.W.nsIn K mainGlobals "_law_is_valid_fraction" = some (some (.ref f46)))
    (l46 : K.lookup f46 = some ⟨oc46, od46, .func (PySem.W.fnOf "_law_is_valid_fraction" "_law_is_valid_fraction" (defArgs s_l_is_valid_fraction) (defBody s_l_is_valid_fraction) (defScope s_l_is_valid_fraction) .none kV46 dc46 pm46 an46 cd46 ct46), sl46⟩) (c46 : PySem.W.codeIn K cd46 "_law_is_valid_fraction" = true) (k46 : PySem.W.keepIn K (.ref f46) = true)
    (a47 : PySem.W.nsIn K mainGlobals "_law_is_term" = some (some (.ref f47)))
    (l47 : K.lookup f47 = some ⟨oc47, od47, .func (PySem.W.fnOf "_law_is_term" "_law_is_term" (defArgs s_l_is_term) (defBody s_l_is_term) (defScope s_l_is_term) .none kV47 dc47 pm47 an47 cd47 ct47), sl47⟩) (c47 : PySem.W.codeIn K cd47 "_law_is_term" = true) (k47 : PySem.W.keepIn K (.ref f47) = true)
    (a48 : PySem.W.nsIn K mainGlobals "_law_is_valid_term" = some (some (.ref f48)))
    (l48 : K.lookup f48 = some ⟨oc48, od48, .func (PySem.W.fnOf "_law_is_valid_term" "_law_is_valid_term" (defArgs s_l_is_valid_term) (defBody s_l_is_valid_term) (defScope s_l_is_valid_term) .none kV48 dc48 pm48 an48 cd48 ct48), sl48⟩) (c48 : PySem.W.codeIn K cd48 "_law_is_valid_term" = true) (k48 : PySem.W.keepIn K (.ref f48) = true)
    (a49 : PySem.W.nsIn K mainGlobals "_law_wide_term" = some (some (.ref f49)))
    (l49 : K.lookup f49 = some ⟨oc49, od49, .func (PySem.W.fnOf "_law_wide_term" "_law_wide_term" (defArgs s_l_wide_term) (defBody s_l_wide_term) (defScope s_l_wide_term) .none kV49 dc49 pm49 an49 cd49 ct49), sl49⟩) (c49 : PySem.W.codeIn K cd49 "_law_wide_term" = true) (k49 : PySem.W.keepIn K (.ref f49) = true)
    (a50 : PySem.W.nsIn K mainGlobals "law" = some (some (.ref f50)))
    (l50 : K.lookup f50 = some ⟨oc50, od50, .func (PySem.W.fnOf "law" "law" (defArgs s_p_law) (defBody s_p_law) (defScope s_p_law) .none kV50 dc50 pm50 an50 cd50 ct50), sl50⟩) (c50 : PySem.W.codeIn K cd50 "law" = true) (k50 : PySem.W.keepIn K (.ref f50) = true)
    (z0 : PySem.W.nsIn K mainGlobals "abs" = some none)
    (z1 : PySem.W.nsIn K mainGlobals "str" = some none)
    (z2 : PySem.W.nsIn K mainGlobals "len" = some none)
    (z3 : PySem.W.nsIn K mainGlobals "int" = some none)
    (z4 : PySem.W.nsIn K mainGlobals "all" = some none)
    (z5 : PySem.W.nsIn K mainGlobals "isinstance" = some none)
    (z6 : PySem.W.nsIn K mainGlobals "bool" = some none)
    (z7 : PySem.W.nsIn K mainGlobals "tuple" = some none)
    (z8 : PySem.W.nsIn K mainGlobals "list" = some none)
    (z9 : PySem.W.nsIn K mainGlobals "zip" = some none)
    (z10 : PySem.W.nsIn K mainGlobals "set" = some none)
    (z11 : PySem.W.nsIn K mainGlobals "range" = some none)
    (z12 : PySem.W.nsIn K mainGlobals "max" = some none)
    (z13 : PySem.W.nsIn K mainGlobals "sum" = some none)
    (q_ZERO : PySem.W.nsIn K mainGlobals "ZERO" = some (some (.ref o_ZERO))) (m_ZERO : K.lookup o_ZERO = some ⟨.type "tuple", od_ZERO, .seq #[.int 0 tk_ZERO_0, .int 1 tk_ZERO_1] on_ZERO, os_ZERO⟩)
    (q_MAX_DIGITS : PySem.W.nsIn K mainGlobals "MAX_DIGITS" = some (some (.int 30 tk_MAX_DIGITS)))
    (q_KEYWORDS : PySem.W.nsIn K mainGlobals "KEYWORDS" = some (some (.ref o_KEYWORDS))) (m_KEYWORDS : K.lookup o_KEYWORDS = some ⟨.type "tuple", od_KEYWORDS, .seq #[.str "max" tk_KEYWORDS_0, .str "min" tk_KEYWORDS_1, .str "median" tk_KEYWORDS_2, .str "mix" tk_KEYWORDS_3] on_KEYWORDS, os_KEYWORDS⟩)
    (q_MAX_NAME : PySem.W.nsIn K mainGlobals "MAX_NAME" = some (some (.int 6 tk_MAX_NAME)))
    (q_MAX_SIDE : PySem.W.nsIn K mainGlobals "MAX_SIDE" = some (some (.int 999999999999 tk_MAX_SIDE)))
    (q_MAX_OPERANDS : PySem.W.nsIn K mainGlobals "MAX_OPERANDS" = some (some (.int 6 tk_MAX_OPERANDS)))
    (q_MAX_SIZE : PySem.W.nsIn K mainGlobals "MAX_SIZE" = some (some (.int 40 tk_MAX_SIZE)))
    (q_MAX_DEPTH : PySem.W.nsIn K mainGlobals "MAX_DEPTH" = some (some (.int 10 tk_MAX_DEPTH)))
    (q_FRACTION_SIGNS : PySem.W.nsIn K mainGlobals "FRACTION_SIGNS" = some (some (.str "0123456789/" tk_FRACTION_SIGNS)))
    (q_LETTERS : PySem.W.nsIn K mainGlobals "LETTERS" = some (some (.str "abcdefghijklmnopqrstuvwxyz" tk_LETTERS)))
    : ∃ fd : FuncData, (∀ (s : Shared) (v : Value), BindsTo s fd ⟨[v], []⟩ [("_law_script", v)]) ∧ ∀ base : Heap, K.In base → base.Ns mainGlobals mg → FnOk l.prog w K mg base CX0 43 fa fd ["_law_script"] (sp_p_law K) := by
  have e := hfa.symm.trans (PySem.W.mg_of X G a50)
  cases e
  have F0 := fun_mk (st := s_p_greatest_divisor) l0 c0 k0
  have b0 := F0.binds (ps := ["one", "other"]) fun _ _ _ _ _ _ us hl => match us, hl with | [_, _], _ => rfl
  have F1 : FunD K "fraction" "fraction" (defArgs s_p_fraction) (defBody s_p_fraction) (defScope s_p_fraction) [(.int 1)] [] f1 (PySem.W.fnOf "fraction" "fraction" (defArgs s_p_fraction) (defBody s_p_fraction) (defScope s_p_fraction) (.ref dT1) kV1 dc1 pm1 an1 cd1 ct1) := ⟨⟨_, _, _, _, _, _, _, _, _, _, rfl, l1, c1, .inr ⟨(fun z => by cases z), _, _, [.int 1 dt1_0], _, rfl, d1, rfl, (.cons ⟨_, rfl⟩ .nil)⟩, .inl rfl⟩, k1⟩
  have b1_2 := F1.binds1 (ps := ["num", "den"]) 2 1 (fun z => nomatch z) rfl fun _ _ _ _ _ _ _ us its h1 h2 => match us, its, h1, h2 with | [_, _], [_], _, _ => ⟨_, rfl, rfl⟩
  have F2 := fun_mk (st := s_p_add) l2 c2 k2
  have b2 := F2.binds (ps := ["one", "other"]) fun _ _ _ _ _ _ us hl => match us, hl with | [_, _], _ => rfl
  have F3 := fun_mk (st := s_p_is_less) l3 c3 k3
  have b3 := F3.binds (ps := ["one", "other"]) fun _ _ _ _ _ _ us hl => match us, hl with | [_, _], _ => rfl
  have F4 : FunD K "total" "total" (defArgs s_p_total) (defBody s_p_total) (defScope s_p_total) [] [("start", (.ref o_ZERO))] f4 (PySem.W.fnOf "total" "total" (defArgs s_p_total) (defBody s_p_total) (defScope s_p_total) .none (.ref kD4) dc4 pm4 an4 cd4 ct4) := ⟨⟨_, _, _, _, _, _, _, _, _, _, rfl, l4, c4, .inl ⟨rfl, rfl⟩, .inr ⟨_, rfl, fun p hp => by
    first | (cases List.mem_singleton.mp hp; exact ⟨_, kd4_0, rfl⟩)⟩⟩, k4⟩
  have b4_1 := F4.binds0 (ps := ["row", "start"]) 1 (fun z => nomatch z) rfl fun _ _ _ _ _ _ us ks h1 h2 => match us, ks, h1, h2 with | [_], [_], _, _ => ⟨_, _, _, _, _, _, rfl, rfl, rfl⟩
  have F5 := fun_mk (st := s_p_format_fraction) l5 c5 k5
  have b5 := F5.binds (ps := ["one"]) fun _ _ _ _ _ _ us hl => match us, hl with | [_], _ => rfl
  have F6 := fun_mk (st := s_p_is_digits) l6 c6 k6
  have b6 := F6.binds (ps := ["text"]) fun _ _ _ _ _ _ us hl => match us, hl with | [_], _ => rfl
  have F7 := fun_mk (st := s_p_parse_fraction) l7 c7 k7
  have b7 := F7.binds (ps := ["text"]) fun _ _ _ _ _ _ us hl => match us, hl with | [_], _ => rfl
  have F8 := fun_mk (st := s_p_is_valid_name) l8 c8 k8
  have b8 := F8.binds (ps := ["thing"]) fun _ _ _ _ _ _ us hl => match us, hl with | [_], _ => rfl
  have F9 := fun_mk (st := s_p_is_number) l9 c9 k9
  have b9 := F9.binds (ps := ["thing"]) fun _ _ _ _ _ _ us hl => match us, hl with | [_], _ => rfl
  have F10 := fun_mk (st := s_p_is_term_fraction) l10 c10 k10
  have b10 := F10.binds (ps := ["thing"]) fun _ _ _ _ _ _ us hl => match us, hl with | [_], _ => rfl
  have F11 := fun_mk (st := s_p_is_weighted) l11 c11 k11
  have b11 := F11.binds (ps := ["pair"]) fun _ _ _ _ _ _ us hl => match us, hl with | [_], _ => rfl
  have F12 := fun_mk (st := s_p_is_mixture) l12 c12 k12
  have b12 := F12.binds (ps := ["pairs"]) fun _ _ _ _ _ _ us hl => match us, hl with | [_], _ => rfl
  have F13 := fun_mk (st := s_p_has_term_form) l13 c13 k13
  have b13 := F13.binds (ps := ["thing"]) fun _ _ _ _ _ _ us hl => match us, hl with | [_], _ => rfl
  have F14 := fun_mk (st := s_p_subterms) l14 c14 k14
  have b14 := F14.binds (ps := ["term"]) fun _ _ _ _ _ _ us hl => match us, hl with | [_], _ => rfl
  have F15 := fun_mk (st := s_p_is_valid_term) l15 c15 k15
  have b15 := F15.binds (ps := ["thing"]) fun _ _ _ _ _ _ us hl => match us, hl with | [_], _ => rfl
  have F16 := fun_mk (st := s_p_format_delay) l16 c16 k16
  have b16 := F16.binds (ps := ["amount"]) fun _ _ _ _ _ _ us hl => match us, hl with | [_], _ => rfl
  have F17 := fun_mk (st := s_p_format_term) l17 c17 k17
  have b17 := F17.binds (ps := ["term"]) fun _ _ _ _ _ _ us hl => match us, hl with | [_], _ => rfl
  have F18 := fun_mk (st := s_p_end_of_run) l18 c18 k18
  have b18 := F18.binds (ps := ["text", "start", "signs"]) fun _ _ _ _ _ _ us hl => match us, hl with | [_, _, _], _ => rfl
  have F19 := fun_mk (st := s_p_skip) l19 c19 k19
  have b19 := F19.binds (ps := ["text", "start", "wanted"]) fun _ _ _ _ _ _ us hl => match us, hl with | [_, _, _], _ => rfl
  have F20 := fun_mk (st := s_p_read_fraction) l20 c20 k20
  have b20 := F20.binds (ps := ["text", "start"]) fun _ _ _ _ _ _ us hl => match us, hl with | [_, _], _ => rfl
  have F21 := fun_mk (st := s_p_read_delays) l21 c21 k21
  have b21 := F21.binds (ps := ["text", "start", "term"]) fun _ _ _ _ _ _ us hl => match us, hl with | [_, _, _], _ => rfl
  have F22 := fun_mk (st := s_p_read_operand) l22 c22 k22
  have b22 := F22.binds (ps := ["text", "start", "kind", "level"]) fun _ _ _ _ _ _ us hl => match us, hl with | [_, _, _, _], _ => rfl
  have F23 := fun_mk (st := s_p_read_operands) l23 c23 k23
  have b23 := F23.binds (ps := ["text", "start", "kind", "level"]) fun _ _ _ _ _ _ us hl => match us, hl with | [_, _, _, _], _ => rfl
  have F24 := fun_mk (st := s_p_read_term) l24 c24 k24
  have b24 := F24.binds (ps := ["text", "start", "level"]) fun _ _ _ _ _ _ us hl => match us, hl with | [_, _, _], _ => rfl
  have F25 := fun_mk (st := s_p_parse_term) l25 c25 k25
  have b25 := F25.binds (ps := ["text"]) fun _ _ _ _ _ _ us hl => match us, hl with | [_], _ => rfl
  have F26 := fun_mk (st := s_l_source) l26 c26 k26
  have b26 := F26.binds (ps := ["_law_script"]) fun _ _ _ _ _ _ us hl => match us, hl with | [_], _ => rfl
  have F27 := fun_mk (st := s_l_draw) l27 c27 k27
  have b27 := F27.binds (ps := ["_law_rng", "_law_quantity"]) fun _ _ _ _ _ _ us hl => match us, hl with | [_, _], _ => rfl
  have F28 := fun_mk (st := s_l_choice) l28 c28 k28
  have b28 := F28.binds (ps := ["_law_rng", "_law_some"]) fun _ _ _ _ _ _ us hl => match us, hl with | [_, _], _ => rfl
  have F29 := fun_mk (st := s_l_shuffled) l29 c29 k29
  have b29 := F29.binds (ps := ["_law_rng", "_law_some"]) fun _ _ _ _ _ _ us hl => match us, hl with | [_, _], _ => rfl
  have F30 := fun_mk (st := s_l_equal) l30 c30 k30
  have b30 := F30.binds (ps := ["_law_result", "_law_expected"]) fun _ _ _ _ _ _ us hl => match us, hl with | [_, _], _ => rfl
  have F31 := fun_mk (st := s_l_reduce) l31 c31 k31
  have b31 := F31.binds (ps := ["_law_num", "_law_den"]) fun _ _ _ _ _ _ us hl => match us, hl with | [_, _], _ => rfl
  have F32 := fun_mk (st := s_l_add) l32 c32 k32
  have b32 := F32.binds (ps := ["_law_one", "_law_other"]) fun _ _ _ _ _ _ us hl => match us, hl with | [_, _], _ => rfl
  have F33 := fun_mk (st := s_l_sum) l33 c33 k33
  have b33 := F33.binds (ps := ["_law_some"]) fun _ _ _ _ _ _ us hl => match us, hl with | [_], _ => rfl
  have F34 := fun_mk (st := s_l_abs) l34 c34 k34
  have b34 := F34.binds (ps := ["_law_one"]) fun _ _ _ _ _ _ us hl => match us, hl with | [_], _ => rfl
  have F35 := fun_mk (st := s_l_small) l35 c35 k35
  have b35 := F35.binds (ps := ["_law_rng"]) fun _ _ _ _ _ _ us hl => match us, hl with | [_], _ => rfl
  have F36 := fun_mk (st := s_l_letters) l36 c36 k36
  have b36 := F36.binds (ps := []) fun _ _ _ _ _ _ us hl => match us, hl with | [], _ => rfl
  have F37 := fun_mk (st := s_l_is_name) l37 c37 k37
  have b37 := F37.binds (ps := ["_law_my_text"]) fun _ _ _ _ _ _ us hl => match us, hl with | [_], _ => rfl
  have F38 := fun_mk (st := s_l_plain) l38 c38 k38
  have b38 := F38.binds (ps := ["_law_names_here"]) fun _ _ _ _ _ _ us hl => match us, hl with | [_], _ => rfl
  have F39 := fun_mk (st := s_l_names) l39 c39 k39
  have b39 := F39.binds (ps := ["_law_rng", "_law_quantity"]) fun _ _ _ _ _ _ us hl => match us, hl with | [_, _], _ => rfl
  have F40 := fun_mk (st := s_l_operands) l40 c40 k40
  have b40 := F40.binds (ps := ["_law_my_term"]) fun _ _ _ _ _ _ us hl => match us, hl with | [_], _ => rfl
  have F41 := fun_mk (st := s_l_size) l41 c41 k41
  have b41 := F41.binds (ps := ["_law_my_term"]) fun _ _ _ _ _ _ us hl => match us, hl with | [_], _ => rfl
  have F42 := fun_mk (st := s_l_shares) l42 c42 k42
  have b42 := F42.binds (ps := ["_law_rng", "_law_quantity"]) fun _ _ _ _ _ _ us hl => match us, hl with | [_, _], _ => rfl
  have F43 := fun_mk (st := s_l_term) l43 c43 k43
  have b43 := F43.binds (ps := ["_law_rng", "_law_names_here", "_law_deep"]) fun _ _ _ _ _ _ us hl => match us, hl with | [_, _, _], _ => rfl
  have F44 := fun_mk (st := s_l_format_fraction) l44 c44 k44
  have b44 := F44.binds (ps := ["_law_x"]) fun _ _ _ _ _ _ us hl => match us, hl with | [_], _ => rfl
  have F45 := fun_mk (st := s_l_format_term) l45 c45 k45
  have b45 := F45.binds (ps := ["_law_my_term"]) fun _ _ _ _ _ _ us hl => match us, hl with | [_], _ => rfl
  have F46 := fun_mk (st := s_l_is_valid_fraction) l46 c46 k46
  have b46 := F46.binds (ps := ["_law_x"]) fun _ _ _ _ _ _ us hl => match us, hl with | [_], _ => rfl
  have F47 := fun_mk (st := s_l_is_term) l47 c47 k47
  have b47 := F47.binds (ps := ["_law_my_term", "_law_deep"]) fun _ _ _ _ _ _ us hl => match us, hl with | [_, _], _ => rfl
  have F48 := fun_mk (st := s_l_is_valid_term) l48 c48 k48
  have b48 := F48.binds (ps := ["_law_my_term"]) fun _ _ _ _ _ _ us hl => match us, hl with | [_], _ => rfl
  have F49 := fun_mk (st := s_l_wide_term) l49 c49 k49
  have b49 := F49.binds (ps := ["_law_rng", "_law_names_here"]) fun _ _ _ _ _ _ us hl => match us, hl with | [_, _], _ => rfl
  have F50 := fun_mk (st := s_p_law) l50 c50 k50
  have b50 := F50.binds (ps := ["_law_script"]) fun _ _ _ _ _ _ us hl => match us, hl with | [_], _ => rfl
  have kb_p_format_term_0_term : ∃ g, KBn K (PySem.W.fnOf "format_term" "format_term" (defArgs s_p_format_term) (defBody s_p_format_term) (defScope s_p_format_term) .none kV17 dc17 pm17 an17 cd17 ct17) ["term"] 0 ["term"] g kg_p_format_term_0_term := ⟨kg_p_format_term_0_term, ⟨fun s us ws _ h1 h2 => match us, ws, h1, h2 with | [], [_], _, _ => .of_eq rfl, fun {vs us zs ws} r1 r2 => kgr_p_format_term_0_term r1 r2⟩⟩
  have kb_p_parse_term_0_text : ∃ g, KBn K (PySem.W.fnOf "parse_term" "parse_term" (defArgs s_p_parse_term) (defBody s_p_parse_term) (defScope s_p_parse_term) .none kV25 dc25 pm25 an25 cd25 ct25) ["text"] 0 ["text"] g kg_p_parse_term_0_text := ⟨kg_p_parse_term_0_text, ⟨fun s us ws _ h1 h2 => match us, ws, h1, h2 with | [], [_], _, _ => .of_eq rfl, fun {vs us zs ws} r1 r2 => kgr_p_parse_term_0_text r1 r2⟩⟩
  let A : Ad := { f_p_greatest_divisor := f0, fd_p_greatest_divisor := PySem.W.fnOf "greatest_divisor" "greatest_divisor" (defArgs s_p_greatest_divisor) (defBody s_p_greatest_divisor) (defScope s_p_greatest_divisor) .none kV0 dc0 pm0 an0 cd0 ct0, f_p_fraction := f1, fd_p_fraction := PySem.W.fnOf "fraction" "fraction" (defArgs s_p_fraction) (defBody s_p_fraction) (defScope s_p_fraction) (.ref dT1) kV1 dc1 pm1 an1 cd1 ct1, f_p_add := f2, fd_p_add := PySem.W.fnOf "add" "add" (defArgs s_p_add) (defBody s_p_add) (defScope s_p_add) .none kV2 dc2 pm2 an2 cd2 ct2, f_p_is_less := f3, fd_p_is_less := PySem.W.fnOf "is_less" "is_less" (defArgs s_p_is_less) (defBody s_p_is_less) (defScope s_p_is_less) .none kV3 dc3 pm3 an3 cd3 ct3, f_p_total := f4, fd_p_total := PySem.W.fnOf "total" "total" (defArgs s_p_total) (defBody s_p_total) (defScope s_p_total) .none (.ref kD4) dc4 pm4 an4 cd4 ct4, f_p_format_fraction := f5, fd_p_format_fraction := PySem.W.fnOf "format_fraction" "format_fraction" (defArgs s_p_format_fraction) (defBody s_p_format_fraction) (defScope s_p_format_fraction) .none kV5 dc5 pm5 an5 cd5 ct5, f_p_is_digits := f6, fd_p_is_digits := PySem.W.fnOf "is_digits" "is_digits" (defArgs s_p_is_digits) (defBody s_p_is_digits) (defScope s_p_is_digits) .none kV6 dc6 pm6 an6 cd6 ct6, f_p_parse_fraction := f7, fd_p_parse_fraction := PySem.W.fnOf "parse_fraction" "parse_fraction" (defArgs s_p_parse_fraction) (defBody s_p_parse_fraction) (defScope s_p_parse_fraction) .none kV7 dc7 pm7 an7 cd7 ct7, f_p_is_valid_name := f8, fd_p_is_valid_name := PySem.W.fnOf "is_valid_name" "is_valid_name" (defArgs s_p_is_valid_name) (defBody s_p_is_valid_name) (defScope s_p_is_valid_name) .none kV8 dc8 pm8 an8 cd8 ct8, f_p_is_number := f9, fd_p_is_number := PySem.W.fnOf "is_number" "is_number" (defArgs s_p_is_number) (defBody s_p_is_number) (defScope s_p_is_number) .none kV9 dc9 pm9 an9 cd9 ct9, f_p_is_term_fraction := f10, fd_p_is_term_fraction := PySem.W.fnOf "is_term_fraction" "is_term_fraction" (defArgs s_p_is_term_fraction) (defBody s_p_is_term_fraction) (defScope s_p_is_term_fraction) .none kV10 dc10 pm10 an10 cd10 ct10, f_p_is_weighted := f11, fd_p_is_weighted := PySem.W.fnOf "is_weighted" "is_weighted" (defArgs s_p_is_weighted) (defBody s_p_is_weighted) (defScope s_p_is_weighted) .none kV11 dc11 pm11 an11 cd11 ct11, f_p_is_mixture := f12, fd_p_is_mixture := PySem.W.fnOf "is_mixture" "is_mixture" (defArgs s_p_is_mixture) (defBody s_p_is_mixture) (defScope s_p_is_mixture) .none kV12 dc12 pm12 an12 cd12 ct12, f_p_has_term_form := f13, fd_p_has_term_form := PySem.W.fnOf "has_term_form" "has_term_form" (defArgs s_p_has_term_form) (defBody s_p_has_term_form) (defScope s_p_has_term_form) .none kV13 dc13 pm13 an13 cd13 ct13, f_p_subterms := f14, fd_p_subterms := PySem.W.fnOf "subterms" "subterms" (defArgs s_p_subterms) (defBody s_p_subterms) (defScope s_p_subterms) .none kV14 dc14 pm14 an14 cd14 ct14, f_p_is_valid_term := f15, fd_p_is_valid_term := PySem.W.fnOf "is_valid_term" "is_valid_term" (defArgs s_p_is_valid_term) (defBody s_p_is_valid_term) (defScope s_p_is_valid_term) .none kV15 dc15 pm15 an15 cd15 ct15, f_p_format_delay := f16, fd_p_format_delay := PySem.W.fnOf "format_delay" "format_delay" (defArgs s_p_format_delay) (defBody s_p_format_delay) (defScope s_p_format_delay) .none kV16 dc16 pm16 an16 cd16 ct16, f_p_format_term := f17, fd_p_format_term := PySem.W.fnOf "format_term" "format_term" (defArgs s_p_format_term) (defBody s_p_format_term) (defScope s_p_format_term) .none kV17 dc17 pm17 an17 cd17 ct17, f_p_end_of_run := f18, fd_p_end_of_run := PySem.W.fnOf "end_of_run" "end_of_run" (defArgs s_p_end_of_run) (defBody s_p_end_of_run) (defScope s_p_end_of_run) .none kV18 dc18 pm18 an18 cd18 ct18, f_p_skip := f19, fd_p_skip := PySem.W.fnOf "skip" "skip" (defArgs s_p_skip) (defBody s_p_skip) (defScope s_p_skip) .none kV19 dc19 pm19 an19 cd19 ct19, f_p_read_fraction := f20, fd_p_read_fraction := PySem.W.fnOf "read_fraction" "read_fraction" (defArgs s_p_read_fraction) (defBody s_p_read_fraction) (defScope s_p_read_fraction) .none kV20 dc20 pm20 an20 cd20 ct20, f_p_read_delays := f21, fd_p_read_delays := PySem.W.fnOf "read_delays" "read_delays" (defArgs s_p_read_delays) (defBody s_p_read_delays) (defScope s_p_read_delays) .none kV21 dc21 pm21 an21 cd21 ct21, f_p_read_operand := f22, fd_p_read_operand := PySem.W.fnOf "read_operand" "read_operand" (defArgs s_p_read_operand) (defBody s_p_read_operand) (defScope s_p_read_operand) .none kV22 dc22 pm22 an22 cd22 ct22, f_p_read_operands := f23, fd_p_read_operands := PySem.W.fnOf "read_operands" "read_operands" (defArgs s_p_read_operands) (defBody s_p_read_operands) (defScope s_p_read_operands) .none kV23 dc23 pm23 an23 cd23 ct23, f_p_read_term := f24, fd_p_read_term := PySem.W.fnOf "read_term" "read_term" (defArgs s_p_read_term) (defBody s_p_read_term) (defScope s_p_read_term) .none kV24 dc24 pm24 an24 cd24 ct24, f_p_parse_term := f25, fd_p_parse_term := PySem.W.fnOf "parse_term" "parse_term" (defArgs s_p_parse_term) (defBody s_p_parse_term) (defScope s_p_parse_term) .none kV25 dc25 pm25 an25 cd25 ct25, f_l_source := f26, fd_l_source := PySem.W.fnOf "_law_source" "_law_source" (defArgs s_l_source) (defBody s_l_source) (defScope s_l_source) .none kV26 dc26 pm26 an26 cd26 ct26, f_l_draw := f27, fd_l_draw := PySem.W.fnOf "_law_draw" "_law_draw" (defArgs s_l_draw) (defBody s_l_draw) (defScope s_l_draw) .none kV27 dc27 pm27 an27 cd27 ct27, f_l_choice := f28, fd_l_choice := PySem.W.fnOf "_law_choice" "_law_choice" (defArgs s_l_choice) (defBody s_l_choice) (defScope s_l_choice) .none kV28 dc28 pm28 an28 cd28 ct28, f_l_shuffled := f29, fd_l_shuffled := PySem.W.fnOf "_law_shuffled" "_law_shuffled" (defArgs s_l_shuffled) (defBody s_l_shuffled) (defScope s_l_shuffled) .none kV29 dc29 pm29 an29 cd29 ct29, f_l_equal := f30, fd_l_equal := PySem.W.fnOf "_law_equal" "_law_equal" (defArgs s_l_equal) (defBody s_l_equal) (defScope s_l_equal) .none kV30 dc30 pm30 an30 cd30 ct30, f_l_reduce := f31, fd_l_reduce := PySem.W.fnOf "_law_reduce" "_law_reduce" (defArgs s_l_reduce) (defBody s_l_reduce) (defScope s_l_reduce) .none kV31 dc31 pm31 an31 cd31 ct31, f_l_add := f32, fd_l_add := PySem.W.fnOf "_law_add" "_law_add" (defArgs s_l_add) (defBody s_l_add) (defScope s_l_add) .none kV32 dc32 pm32 an32 cd32 ct32, f_l_sum := f33, fd_l_sum := PySem.W.fnOf "_law_sum" "_law_sum" (defArgs s_l_sum) (defBody s_l_sum) (defScope s_l_sum) .none kV33 dc33 pm33 an33 cd33 ct33, f_l_abs := f34, fd_l_abs := PySem.W.fnOf "_law_abs" "_law_abs" (defArgs s_l_abs) (defBody s_l_abs) (defScope s_l_abs) .none kV34 dc34 pm34 an34 cd34 ct34, f_l_small := f35, fd_l_small := PySem.W.fnOf "_law_small" "_law_small" (defArgs s_l_small) (defBody s_l_small) (defScope s_l_small) .none kV35 dc35 pm35 an35 cd35 ct35, f_l_letters := f36, fd_l_letters := PySem.W.fnOf "_law_letters" "_law_letters" (defArgs s_l_letters) (defBody s_l_letters) (defScope s_l_letters) .none kV36 dc36 pm36 an36 cd36 ct36, f_l_is_name := f37, fd_l_is_name := PySem.W.fnOf "_law_is_name" "_law_is_name" (defArgs s_l_is_name) (defBody s_l_is_name) (defScope s_l_is_name) .none kV37 dc37 pm37 an37 cd37 ct37, f_l_plain := f38, fd_l_plain := PySem.W.fnOf "_law_plain" "_law_plain" (defArgs s_l_plain) (defBody s_l_plain) (defScope s_l_plain) .none kV38 dc38 pm38 an38 cd38 ct38, f_l_names := f39, fd_l_names := PySem.W.fnOf "_law_names" "_law_names" (defArgs s_l_names) (defBody s_l_names) (defScope s_l_names) .none kV39 dc39 pm39 an39 cd39 ct39, f_l_operands := f40, fd_l_operands := PySem.W.fnOf "_law_operands" "_law_operands" (defArgs s_l_operands) (defBody s_l_operands) (defScope s_l_operands) .none kV40 dc40 pm40 an40 cd40 ct40, f_l_size := f41, fd_l_size := PySem.W.fnOf "_law_size" "_law_size" (defArgs s_l_size) (defBody s_l_size) (defScope s_l_size) .none kV41 dc41 pm41 an41 cd41 ct41, f_l_shares := f42, fd_l_shares := PySem.W.fnOf "_law_shares" "_law_shares" (defArgs s_l_shares) (defBody s_l_shares) (defScope s_l_shares) .none kV42 dc42 pm42 an42 cd42 ct42, f_l_term := f43, fd_l_term := PySem.W.fnOf "_law_term" "_law_term" (defArgs s_l_term) (defBody s_l_term) (defScope s_l_term) .none kV43 dc43 pm43 an43 cd43 ct43, f_l_format_fraction := f44, fd_l_format_fraction := PySem.W.fnOf "_law_format_fraction" "_law_format_fraction" (defArgs s_l_format_fraction) (defBody s_l_format_fraction) (defScope s_l_format_fraction) .none kV44 dc44 pm44 an44 cd44 ct44, f_l_format_term := f45, fd_l_format_term := PySem.W.fnOf "_law_format_term" "_law_format_term" (defArgs s_l_format_term) (defBody s_l_format_term) (defScope s_l_format_term) .none kV45 dc45 pm45 an45 cd45 ct45, f_l_is_valid_fraction := f46, fd_l_is_valid_fraction := PySem.W.fnOf "_law_is_valid_fraction" "_law_is_valid_fraction" (defArgs s_l_is_valid_fraction) (defBody s_l_is_valid_fraction) (defScope s_l_is_valid_fraction) .none kV46 dc46 pm46 an46 cd46 ct46, f_l_is_term := f47, fd_l_is_term := PySem.W.fnOf "_law_is_term" "_law_is_term" (defArgs s_l_is_term) (defBody s_l_is_term) (defScope s_l_is_term) .none kV47 dc47 pm47 an47 cd47 ct47, f_l_is_valid_term := f48, fd_l_is_valid_term := PySem.W.fnOf "_law_is_valid_term" "_law_is_valid_term" (defArgs s_l_is_valid_term) (defBody s_l_is_valid_term) (defScope s_l_is_valid_term) .none kV48 dc48 pm48 an48 cd48 ct48, f_l_wide_term := f49, fd_l_wide_term := PySem.W.fnOf "_law_wide_term" "_law_wide_term" (defArgs s_l_wide_term) (defBody s_l_wide_term) (defScope s_l_wide_term) .none kV49 dc49 pm49 an49 cd49 ct49, f_p_law := fa, fd_p_law := PySem.W.fnOf "law" "law" (defArgs s_p_law) (defBody s_p_law) (defScope s_p_law) .none kV50 dc50 pm50 an50 cd50 ct50, o_ZERO := o_ZERO, tk_MAX_DIGITS := tk_MAX_DIGITS, o_KEYWORDS := o_KEYWORDS, tk_MAX_NAME := tk_MAX_NAME, tk_MAX_SIDE := tk_MAX_SIDE, tk_MAX_OPERANDS := tk_MAX_OPERANDS, tk_MAX_SIZE := tk_MAX_SIZE, tk_MAX_DEPTH := tk_MAX_DEPTH, tk_FRACTION_SIGNS := tk_FRACTION_SIGNS, tk_LETTERS := tk_LETTERS }
  have T : Txt K mg A := { F_p_greatest_divisor := F0, g_p_greatest_divisor := PySem.W.mg_of X G a0, b_p_greatest_divisor := b0, F_p_fraction := F1, g_p_fraction := PySem.W.mg_of X G a1, b_p_fraction_2 := b1_2, F_p_add := F2, g_p_add := PySem.W.mg_of X G a2, b_p_add := b2, F_p_is_less := F3, g_p_is_less := PySem.W.mg_of X G a3, b_p_is_less := b3, F_p_total := F4, g_p_total := PySem.W.mg_of X G a4, b_p_total_1 := b4_1, F_p_format_fraction := F5, g_p_format_fraction := PySem.W.mg_of X G a5, b_p_format_fraction := b5, F_p_is_digits := F6, g_p_is_digits := PySem.W.mg_of X G a6, b_p_is_digits := b6, F_p_parse_fraction := F7, g_p_parse_fraction := PySem.W.mg_of X G a7, b_p_parse_fraction := b7, F_p_is_valid_name := F8, g_p_is_valid_name := PySem.W.mg_of X G a8, b_p_is_valid_name := b8, F_p_is_number := F9, g_p_is_number := PySem.W.mg_of X G a9, b_p_is_number := b9, F_p_is_term_fraction := F10, g_p_is_term_fraction := PySem.W.mg_of X G a10, b_p_is_term_fraction := b10, F_p_is_weighted := F11, g_p_is_weighted := PySem.W.mg_of X G a11, b_p_is_weighted := b11, F_p_is_mixture := F12, g_p_is_mixture := PySem.W.mg_of X G a12, b_p_is_mixture := b12, F_p_has_term_form := F13, g_p_has_term_form := PySem.W.mg_of X G a13, b_p_has_term_form := b13, F_p_subterms := F14, g_p_subterms := PySem.W.mg_of X G a14, b_p_subterms := b14, F_p_is_valid_term := F15, g_p_is_valid_term := PySem.W.mg_of X G a15, b_p_is_valid_term := b15, F_p_format_delay := F16, g_p_format_delay := PySem.W.mg_of X G a16, b_p_format_delay := b16, F_p_format_term := F17, g_p_format_term := PySem.W.mg_of X G a17, b_p_format_term := b17, F_p_end_of_run := F18, g_p_end_of_run := PySem.W.mg_of X G a18, b_p_end_of_run := b18, F_p_skip := F19, g_p_skip := PySem.W.mg_of X G a19, b_p_skip := b19, F_p_read_fraction := F20, g_p_read_fraction := PySem.W.mg_of X G a20, b_p_read_fraction := b20, F_p_read_delays := F21, g_p_read_delays := PySem.W.mg_of X G a21, b_p_read_delays := b21, F_p_read_operand := F22, g_p_read_operand := PySem.W.mg_of X G a22, b_p_read_operand := b22, F_p_read_operands := F23, g_p_read_operands := PySem.W.mg_of X G a23, b_p_read_operands := b23, F_p_read_term := F24, g_p_read_term := PySem.W.mg_of X G a24, b_p_read_term := b24, F_p_parse_term := F25, g_p_parse_term := PySem.W.mg_of X G a25, b_p_parse_term := b25, F_l_source := F26, g_l_source := PySem.W.mg_of X G a26, b_l_source := b26, F_l_draw := F27, g_l_draw := PySem.W.mg_of X G a27, b_l_draw := b27, F_l_choice := F28, g_l_choice := PySem.W.mg_of X G a28, b_l_choice := b28, F_l_shuffled := F29, g_l_shuffled := PySem.W.mg_of X G a29, b_l_shuffled := b29, F_l_equal := F30, g_l_equal := PySem.W.mg_of X G a30, b_l_equal := b30, F_l_reduce := F31, g_l_reduce := PySem.W.mg_of X G a31, b_l_reduce := b31, F_l_add := F32, g_l_add := PySem.W.mg_of X G a32, b_l_add := b32, F_l_sum := F33, g_l_sum := PySem.W.mg_of X G a33, b_l_sum := b33, F_l_abs := F34, g_l_abs := PySem.W.mg_of X G a34, b_l_abs := b34, F_l_small := F35, g_l_small := PySem.W.mg_of X G a35, b_l_small := b35, F_l_letters := F36, g_l_letters := PySem.W.mg_of X G a36, b_l_letters := b36, F_l_is_name := F37, g_l_is_name := PySem.W.mg_of X G a37, b_l_is_name := b37, F_l_plain := F38, g_l_plain := PySem.W.mg_of X G a38, b_l_plain := b38, F_l_names := F39, g_l_names := PySem.W.mg_of X G a39, b_l_names := b39, F_l_operands := F40, g_l_operands := PySem.W.mg_of X G a40, b_l_operands := b40, F_l_size := F41, g_l_size := PySem.W.mg_of X G a41, b_l_size := b41, F_l_shares := F42, g_l_shares := PySem.W.mg_of X G a42, b_l_shares := b42, F_l_term := F43, g_l_term := PySem.W.mg_of X G a43, b_l_term := b43, F_l_format_fraction := F44, g_l_format_fraction := PySem.W.mg_of X G a44, b_l_format_fraction := b44, F_l_format_term := F45, g_l_format_term := PySem.W.mg_of X G a45, b_l_format_term := b45, F_l_is_valid_fraction := F46, g_l_is_valid_fraction := PySem.W.mg_of X G a46, b_l_is_valid_fraction := b46, F_l_is_term := F47, g_l_is_term := PySem.W.mg_of X G a47, b_l_is_term := b47, F_l_is_valid_term := F48, g_l_is_valid_term := PySem.W.mg_of X G a48, b_l_is_valid_term := b48, F_l_wide_term := F49, g_l_wide_term := PySem.W.mg_of X G a49, b_l_wide_term := b49, F_p_law := F50, g_p_law := PySem.W.mg_of X G a50, b_p_law := b50, n_abs := PySem.W.mg_none_of X G z0, n_str := PySem.W.mg_none_of X G z1, n_len := PySem.W.mg_none_of X G z2, n_int := PySem.W.mg_none_of X G z3, n_all := PySem.W.mg_none_of X G z4, n_isinstance := PySem.W.mg_none_of X G z5, n_bool := PySem.W.mg_none_of X G z6, n_tuple := PySem.W.mg_none_of X G z7, n_list := PySem.W.mg_none_of X G z8, n_zip := PySem.W.mg_none_of X G z9, n_set := PySem.W.mg_none_of X G z10, n_range := PySem.W.mg_none_of X G z11, n_max := PySem.W.mg_none_of X G z12, n_sum := PySem.W.mg_none_of X G z13, c_ZERO := PySem.W.mg_of X G q_ZERO, t_ZERO := fun H => .inr ⟨_, _, _, m_ZERO, rfl, rfl, (by show 2 ≤ sizeLine; decide), (.cons ⟨_, rfl⟩ (.cons ⟨_, rfl⟩ .nil))⟩, c_MAX_DIGITS := PySem.W.mg_of X G q_MAX_DIGITS, c_KEYWORDS := PySem.W.mg_of X G q_KEYWORDS, t_KEYWORDS := fun H => .inr ⟨_, _, _, m_KEYWORDS, rfl, rfl, (by show 4 ≤ sizeLine; decide), (.cons ⟨_, rfl⟩ (.cons ⟨_, rfl⟩ (.cons ⟨_, rfl⟩ (.cons ⟨_, rfl⟩ .nil))))⟩, c_MAX_NAME := PySem.W.mg_of X G q_MAX_NAME, c_MAX_SIDE := PySem.W.mg_of X G q_MAX_SIDE, c_MAX_OPERANDS := PySem.W.mg_of X G q_MAX_OPERANDS, c_MAX_SIZE := PySem.W.mg_of X G q_MAX_SIZE, c_MAX_DEPTH := PySem.W.mg_of X G q_MAX_DEPTH, c_FRACTION_SIGNS := PySem.W.mg_of X G q_FRACTION_SIGNS, c_LETTERS := PySem.W.mg_of X G q_LETTERS, kb_p_format_term_0_term := kb_p_format_term_0_term, kb_p_parse_term_0_text := kb_p_parse_term_0_text }
  exact ⟨PySem.W.fnOf "law" "law" (defArgs s_p_law) (defBody s_p_law) (defScope s_p_law) .none kV50 dc50 pm50 an50 cd50 ct50, fun s v => .of_eq rfl, fun base _ _ => ok_p_law (a := A) T⟩
end Gait
open PySem PySem.W PyProof.Rows
set_option maxRecDepth 100000 in
set_option maxHeartbeats 0 in
theorem PySem.Challenge.cw_gaithold_k11_term_texts_holds : PySem.Challenge.rw_gaithold_k11_term_texts.Holds := by
  w_on; o_law; k_head; (case hw => w_witness2)
  k_fill
  refine L2.walk_of (l := PySem.Challenge.rw_gaithold_k11_term_texts) (n := 63) (k := 43) (x := "_law_script") (CX := fun _ => L2.CX0) (sp := fun w => Gait.sp_p_law _) rfl (by decide) rfl ⟨rfl, by decide, by decide⟩ (fun w h Y => PySem.W.kIn_of Y) ?F (fun _ _ a ns hl _ hS => ⟨a, ns, rfl, hS, hl, fun _ => rfl⟩) (fun _ _ _ _ _ h => h)
  case F =>
    intro w mg fa h KX G hmg
    refine' Gait.all_mk KX G hmg ?a0 ?l0 ?c0 ?k0 ?a1 ?l1 ?c1 ?k1 ?d1 ?a2 ?l2 ?c2 ?k2 ?a3 ?l3 ?c3 ?k3 ?a4 ?l4 ?c4 ?k4 ?kd4_0 ?a5 ?l5 ?c5 ?k5 ?a6 ?l6 ?c6 ?k6 ?a7 ?l7 ?c7 ?k7 ?a8 ?l8 ?c8 ?k8 ?a9 ?l9 ?c9 ?k9 ?a10 ?l10 ?c10 ?k10 ?a11 ?l11 ?c11 ?k11 ?a12 ?l12 ?c12 ?k12 ?a13 ?l13 ?c13 ?k13 ?a14 ?l14 ?c14 ?k14 ?a15 ?l15 ?c15 ?k15 ?a16 ?l16 ?c16 ?k16 ?a17 ?l17 ?c17 ?k17 ?a18 ?l18 ?c18 ?k18 ?a19 ?l19 ?c19 ?k19 ?a20 ?l20 ?c20 ?k20 ?a21 ?l21 ?c21 ?k21 ?a22 ?l22 ?c22 ?k22 ?a23 ?l23 ?c23 ?k23 ?a24 ?l24 ?c24 ?k24 ?a25 ?l25 ?c25 ?k25 ?a26 ?l26 ?c26 ?k26 ?a27 ?l27 ?c27 ?k27 ?a28 ?l28 ?c28 ?k28 ?a29 ?l29 ?c29 ?k29 ?a30 ?l30 ?c30 ?k30 ?a31 ?l31 ?c31 ?k31 ?a32 ?l32 ?c32 ?k32 ?a33 ?l33 ?c33 ?k33 ?a34 ?l34 ?c34 ?k34 ?a35 ?l35 ?c35 ?k35 ?a36 ?l36 ?c36 ?k36 ?a37 ?l37 ?c37 ?k37 ?a38 ?l38 ?c38 ?k38 ?a39 ?l39 ?c39 ?k39 ?a40 ?l40 ?c40 ?k40 ?a41 ?l41 ?c41 ?k41 ?a42 ?l42 ?c42 ?k42 ?a43 ?l43 ?c43 ?k43 ?a44 ?l44 ?c44 ?k44 ?a45 ?l45 ?c45 ?k45 ?a46 ?l46 ?c46 ?k46 ?a47 ?l47 ?c47 ?k47 ?a48 ?l48 ?c48 ?k48 ?a49 ?l49 ?c49 ?k49 ?a50 ?l50 ?c50 ?k50 ?z0 ?z1 ?z2 ?z3 ?z4 ?z5 ?z6 ?z7 ?z8 ?z9 ?z10 ?z11 ?z12 ?z13 ?q_ZERO ?m_ZERO ?q_MAX_DIGITS ?q_KEYWORDS ?m_KEYWORDS ?q_MAX_NAME ?q_MAX_SIDE ?q_MAX_OPERANDS ?q_MAX_SIZE ?q_MAX_DEPTH ?q_FRACTION_SIGNS ?q_LETTERS
    (case a0 => k_is); (case l0 => k_is); (case c0 => k_is); (case k0 => k_is); (case a1 => k_is); (case l1 => k_is); (case c1 => k_is); (case k1 => k_is); (case d1 => k_is); (case a2 => k_is); (case l2 => k_is); (case c2 => k_is); (case k2 => k_is); (case a3 => k_is); (case l3 => k_is); (case c3 => k_is); (case k3 => k_is); (case a4 => k_is); (case l4 => k_is); (case c4 => k_is); (case k4 => k_is); (case kd4_0 => k_is); (case a5 => k_is); (case l5 => k_is); (case c5 => k_is); (case k5 => k_is); (case a6 => k_is); (case l6 => k_is); (case c6 => k_is); (case k6 => k_is); (case a7 => k_is); (case l7 => k_is); (case c7 => k_is); (case k7 => k_is); (case a8 => k_is); (case l8 => k_is); (case c8 => k_is); (case k8 => k_is); (case a9 => k_is); (case l9 => k_is); (case c9 => k_is); (case k9 => k_is); (case a10 => k_is); (case l10 => k_is); (case c10 => k_is); (case k10 => k_is); (case a11 => k_is); (case l11 => k_is); (case c11 => k_is); (case k11 => k_is); (case a12 => k_is); (case l12 => k_is); (case c12 => k_is); (case k12 => k_is); (case a13 => k_is); (case l13 => k_is); (case c13 => k_is); (case k13 => k_is); (case a14 => k_is); (case l14 => k_is); (case c14 => k_is); (case k14 => k_is); (case a15 => k_is); (case l15 => k_is); (case c15 => k_is); (case k15 => k_is); (case a16 => k_is); (case l16 => k_is); (case c16 => k_is); (case k16 => k_is); (case a17 => k_is); (case l17 => k_is); (case c17 => k_is); (case k17 => k_is); (case a18 => k_is); (case l18 => k_is); (case c18 => k_is); (case k18 => k_is); (case a19 => k_is); (case l19 => k_is); (case c19 => k_is); (case k19 => k_is); (case a20 => k_is); (case l20 => k_is); (case c20 => k_is); (case k20 => k_is); (case a21 => k_is); (case l21 => k_is); (case c21 => k_is); (case k21 => k_is); (case a22 => k_is); (case l22 => k_is); (case c22 => k_is); (case k22 => k_is); (case a23 => k_is); (case l23 => k_is); (case c23 => k_is); (case k23 => k_is); (case a24 => k_is); (case l24 => k_is); (case c24 => k_is); (case k24 => k_is); (case a25 => k_is); (case l25 => k_is); (case c25 => k_is); (case k25 => k_is); (case a26 => k_is); (case l26 => k_is); (case c26 => k_is); (case k26 => k_is); (case a27 => k_is); (case l27 => k_is); (case c27 => k_is); (case k27 => k_is); (case a28 => k_is); (case l28 => k_is); (case c28 => k_is); (case k28 => k_is); (case a29 => k_is); (case l29 => k_is); (case c29 => k_is); (case k29 => k_is); (case a30 => k_is); (case l30 => k_is); (case c30 => k_is); (case k30 => k_is); (case a31 => k_is); (case l31 => k_is); (case c31 => k_is); (case k31 => k_is); (case a32 => k_is); (case l32 => k_is); (case c32 => k_is); (case k32 => k_is); (case a33 => k_is); (case l33 => k_is); (case c33 => k_is); (case k33 => k_is); (case a34 => k_is); (case l34 => k_is); (case c34 => k_is); (case k34 => k_is); (case a35 => k_is); (case l35 => k_is); (case c35 => k_is); (case k35 => k_is); (case a36 => k_is); (case l36 => k_is); (case c36 => k_is); (case k36 => k_is); (case a37 => k_is); (case l37 => k_is); (case c37 => k_is); (case k37 => k_is); (case a38 => k_is); (case l38 => k_is); (case c38 => k_is); (case k38 => k_is); (case a39 => k_is); (case l39 => k_is); (case c39 => k_is); (case k39 => k_is); (case a40 => k_is); (case l40 => k_is); (case c40 => k_is); (case k40 => k_is); (case a41 => k_is); (case l41 => k_is); (case c41 => k_is); (case k41 => k_is); (case a42 => k_is); (case l42 => k_is); (case c42 => k_is); (case k42 => k_is); (case a43 => k_is); (case l43 => k_is); (case c43 => k_is); (case k43 => k_is); (case a44 => k_is); (case l44 => k_is); (case c44 => k_is); (case k44 => k_is); (case a45 => k_is); (case l45 => k_is); (case c45 => k_is); (case k45 => k_is); (case a46 => k_is); (case l46 => k_is); (case c46 => k_is); (case k46 => k_is); (case a47 => k_is); (case l47 => k_is); (case c47 => k_is); (case k47 => k_is); (case a48 => k_is); (case l48 => k_is); (case c48 => k_is); (case k48 => k_is); (case a49 => k_is); (case l49 => k_is); (case c49 => k_is); (case k49 => k_is); (case a50 => k_is); (case l50 => k_is); (case c50 => k_is); (case k50 => k_is); (case z0 => k_is); (case z1 => k_is); (case z2 => k_is); (case z3 => k_is); (case z4 => k_is); (case z5 => k_is); (case z6 => k_is); (case z7 => k_is); (case z8 => k_is); (case z9 => k_is); (case z10 => k_is); (case z11 => k_is); (case z12 => k_is); (case z13 => k_is); (case q_ZERO => k_is); (case m_ZERO => k_is); (case q_MAX_DIGITS => k_is); (case q_KEYWORDS => k_is); (case m_KEYWORDS => k_is); (case q_MAX_NAME => k_is); (case q_MAX_SIDE => k_is); (case q_MAX_OPERANDS => k_is); (case q_MAX_SIZE => k_is); (case q_MAX_DEPTH => k_is); (case q_FRACTION_SIGNS => k_is); (case q_LETTERS => k_is)
