import PyProof.Rows.All
import Wide.All
import OpenK.AllK
import Wide.FinOn
import PySem.Challenge.RW_gaithold_k21_invalid_shapes
import HandS.ForMost
import HandS.Wide
import HandS.IsInst
import HandS.Zip
import HandS.Codes
import HandS.Defaults
import HandS.EndOwn
import KE.KExcLine
import HandS.ExcIs
import HandS.Defaults
import HandS.MakeKw
import HandS.FStr
import PyProof.StrLawsRepr
import HandS.Deep
import HandS.Style
import HandS.TupAny
import HandS.Style
import HandS.IsInst
import HandS.Exc
import HandS.ExcInit
import HandS.ExcField
import HandS.ExcCtx
import KE.KExcInit
import HandS.Hot
import KE.KTryMore
import HandS.Lambda
import HandS.HotCalls
import KE.KDflt
import KE.GoesMore
import HandS.Strs
import HandS.SortKw
import HandS.Iter
import KE.GoesZip
set_option Elab.async false
set_option linter.all false
set_option maxRecDepth 100000
set_option maxHeartbeats 4000000
namespace ExB
open PySem PySem.Spec PyProof.Rows L2 PySem.W
/-! own exception classes over any built-in base, with an __init__ that is a def -/
section
variable {prog : Program} {w : World} {A : Around} {E : Value → Shared → Prop} {hp : Heap} {g : Array GenState} {d : Drawn} {t : Nat} {os : OsState} {K : Frag} {B : String} {bmB : List Value} {a C tt : Addr} {f : Str} {u : Value}
theorem set_first {Q : Unit → Shared → Prop} (SF : StoreFacts B bmB "object.__setattr__" "object") (X : K.In hp) (hx : hp.get? a = some (excObj C tt none .none))
    (h1 : findIn K (.ref C) "__setattr__" = some (some (.builtin "object.__setattr__"))) (h2 : excOver K C bmB = true) (h3 : takerIn K C f = some none) (h4 : hasDictIn K C = true)
    (fin : ∀ (h' : Heap) (n : Nat) (dx : Addr), (∀ b o, b ≠ a → hp.get? b = some o → h'.get? b = some o) → hp.objs.size ≤ dx → dx ≠ a → h'.get? a = some (excObj C tt (some dx) .none) →
      (h'.Ns1 dx fun y => if y = f then some u else none) → Q () ⟨h', g, d, n, os⟩) :
    wpAny (model prog w) A (setAttr (.ref a) f u) Q E ⟨hp, g, d, t, os⟩ := by
  have lt : a < hp.objs.size := Heap.lt_size hx
  refine set_plain (s := ⟨hp, g, d, t, os⟩) (od := none) X ⟨hx, rfl, rfl, trivial⟩ h1 (osa_openX (s := ⟨hp, g, d, t + 1, os⟩) (od := none) SF X ⟨hx, rfl, rfl, trivial⟩ h2 h3 fun _ => ?_)
  obtain ⟨cd, hc, hd⟩ := any_some h4
  refine wpAny_bind (wpAny_pure (wpAny_bind (instanceDict_exc (s := ⟨hp, g, d, t + 1, os⟩) hx (looks_clsIn X hc) hd ?_)))
  have ne : hp.objs.size ≠ a := Nat.ne_of_gt lt
  have emp : Heap.Ns ((hp.push (dictOf [] 0)).update a fun o => { o with dict := some hp.objs.size }) hp.objs.size (fun _ => none) :=
    ⟨dictOf [] 0, #[], 0, (Heap.get?_update_other _ _ ne.symm).trans (Heap.get?_push_size _ rfl), rfl, fun e he => absurd he (by simp), fun _ => rfl⟩
  show wpAny _ _ (Builtin.ObjectAttr.storeInDict hp.objs.size (.str f t) f u) _ _ _
  refine HandSPX.store_in_new emp fun h' n hn same => ?_
  refine fin h' n hp.objs.size (fun b o hb ho => ?_) (Nat.le_refl _) ne ?_ hn
  · rw [same.2 b (Nat.ne_of_lt (Heap.lt_size ho)), Heap.get?_update_other _ _ (Ne.symm hb)]
    exact Heap.get?_push_of_some _ ho
  · rw [same.2 a ne.symm]
    exact Heap.get?_update_self _ (Heap.get?_push_of_some _ hx) rfl
theorem set_next {Q : Unit → Shared → Prop} {dx : Addr} {m0 : Str → Option Value} {ns : List Str} (SF : StoreFacts B bmB "object.__setattr__" "object") (X : K.In hp) (hx : hp.get? a = some (excObj C tt (some dx) .none)) (hn : hp.Ns1 dx m0) (hw : Within m0 ns) (hz : ns.length ≤ 1000)
    (h1 : findIn K (.ref C) "__setattr__" = some (some (.builtin "object.__setattr__"))) (h2 : excOver K C bmB = true) (h3 : takerIn K C f = some none) (h4 : hasDictIn K C = true)
    (fin : ∀ (h' : Heap) (n : Nat), (∀ b o, b ≠ dx → hp.get? b = some o → h'.get? b = some o) → (h'.Ns1 dx fun y => if y = f then some u else m0 y) → Q () ⟨h', g, d, n, os⟩) :
    wpAny (model prog w) A (setAttr (.ref a) f u) Q E ⟨hp, g, d, t, os⟩ := by
  obtain ⟨oD, _, _, hD, _, _⟩ := hn.count hw
  refine set_plain (s := ⟨hp, g, d, t, os⟩) (od := some oD) X ⟨hx, rfl, rfl, hD⟩ h1 (osa_openX (s := ⟨hp, g, d, t + 1, os⟩) (od := some oD) SF X ⟨hx, rfl, rfl, hD⟩ h2 h3 fun _ => ?_)
  obtain ⟨cd, hc, hd⟩ := any_some h4
  refine wpAny_bind (wpAny_pure (wpAny_bind (wpAny_bind (wpAny_loadPart (s := ⟨hp, g, d, t + 1, os⟩) hx (wpAny_bind ((looks_clsIn X hc).here ?_))))))
  rw [hd]
  refine wpAny_pure (a := some dx) (OEX.store_in_old hn hw hz fun h' n hn' same => ?_)
  exact fin h' n (fun b o hb ho => (same.2 b hb).trans ho) hn'
end
/-- what the written part says of the class at C, over the built-in class B -/
structure Own (K : Frag) (C : Addr) (B newId initId : String) (bmB : List Value) : Prop where
  F : ExcBaseFacts B newId initId bmB
  SF : StoreFacts B bmB "object.__setattr__" "object"
  ini : excInitIn K C bmB newId = true
  ovr : excOver K C bmB = true
  dct : hasDictIn K C = true
  sa : findIn K (.ref C) "__setattr__" = some (some (.builtin "object.__setattr__"))
  exC : subIn K (.ref C) (.type "BaseException") = some true
  tyC : typeIn K (.ref C) = some (.type "type")
  kC : keepIn K (.ref C) = true
def OwnX (K : Frag) (C : Addr) : Prop := ∃ B newId initId bmB, Own K C B newId initId bmB
section
variable {X : Cx} {pins : List (Addr × Obj)} {σ : L2.St} {H : Hp} {s : Shared} {a C dx : Addr} {f : Str} {y : V} {u : Value} {fs : List (Str × V)} {Q : Unit → Shared → Prop} {E : Value → Shared → Prop} {A : Around}
theorem first_inv (O : OwnX X.K C) (I : Inv X pins σ H s) (e : H a = some (exo a C none)) (ht : takerIn X.K C f = some none) (ry : RelV y u)
    (h : ∀ dx s', H dx = none → dx ≠ a → Inv X pins σ (upd (upd H dx (exd dx [(f, y)])) a (exo a C (some dx))) s' → Q () s') : wpAny (model X.prog X.w) A (setAttr (.ref a) f u) Q E s := by
  obtain ⟨B, newId, initId, bmB, O⟩ := O
  obtain ⟨t1, ho⟩ := exo_at I.hok e
  obtain ⟨hp, g, d, t, os⟩ := s
  refine set_first O.SF I.kIn ho O.sa O.ovr ht O.dct fun h' n dx keep big ne hx hn => ?_
  have free : H dx = none := I.hok.fresh big
  have nd : ∀ {b : Addr} {o : Obj}, hp.get? b = some o → b ≠ dx := fun q => Nat.ne_of_lt (Nat.lt_of_lt_of_le (Heap.lt_size q) big)
  have na : ∀ {b : Addr}, H b = none → b ≠ a := fun z q => by rw [q, e] at z; cases z
  have go : ∀ {b : Addr} {o : HO}, H b = some o → exo a C none ≠ o → upd (upd H dx (exd dx [(f, y)])) a (exo a C (some dx)) b = some o := fun {b o} q ne => by
    rw [upd_ne (at_ne e q ne), upd_ne (ne_of_none q free)]
    exact q
  refine h dx _ free ne (I.un (t' := n) (Un.mk (fun b o q z _ _ => keep b o (na z) q) (fun b o q z _ _ => ⟨o.slots, keep b o (na z) q⟩) (fun b o q z _ => ?_) (fun b o q _ => ?_) (fun b xs q => go q exo_tup) (fun b o v q => go q exo_frz) (fun b ps q => ⟨#[], ?_⟩)) fun b o q => ?_)
  · rw [upd_ne (na z), upd_ne (nd q)]
    exact z
  · by_cases hb : b = a
    · subst hb; exact ⟨_, hx⟩
    · exact ⟨o, keep b o hb q⟩
  · rw [go q exo_tbl]; simp
  · by_cases hb : b = a
    · subst hb
      rw [upd_same] at q
      cases q
      exact exo_ok hx
    rw [upd_ne hb] at q
    by_cases hd : b = dx
    · subst hd
      rw [upd_same] at q
      cases q
      exact exd_ok hn (relO_put (fs := []) ry fun _ => True.intro)
    rw [upd_ne hd] at q
    refine (I.hok b o q).stay (fun c v hc z => keep c v ?_ z) (fun c hc => go hc exo_own) fun c xs hc => go hc exo_tup
    rcases hc with hc | hc
    · rw [hc]; exact hb
    · exact at_ne e hc exo_own
theorem next_inv (O : OwnX X.K C) (I : Inv X pins σ H s) (e : H a = some (exo a C (some dx))) (ed : H dx = some (exd dx fs)) (hl : fs.length ≤ 900) (ht : takerIn X.K C f = some none) (ry : RelV y u)
    (h : ∀ s', Inv X pins σ (upd H dx (exd dx ((f, y) :: fs))) s' → Q () s') : wpAny (model X.prog X.w) A (setAttr (.ref a) f u) Q E s := by
  obtain ⟨B, newId, initId, bmB, O⟩ := O
  obtain ⟨t1, ho⟩ := exo_at I.hok e
  obtain ⟨mA, hns, rel⟩ := exd_at I.hok ed
  obtain ⟨hp, g, d, t, os⟩ := s
  refine set_next O.SF I.kIn ho hns (within_of rel) (by rw [List.length_map]; omega) O.sa O.ovr ht O.dct fun h' n keep hn => ?_
  obtain ⟨o, es, ep, e1, r1⟩ := id hn
  exact h _ (I.write (t' := n) (x := dx) (e := dx) (o := exd dx ((f, y) :: fs)) (by rw [ed]; exact True.intro) (.inl rfl) keep ⟨o, e1⟩ (exd_ok hn (relO_put ry rel)))
theorem init_inv {us : List Value} {B newId initId : String} {bmB : List Value} {Q : Value → Shared → Prop} (O : Own X.K C B newId initId bmB) (I : Inv X pins σ H s) (e : H a = some (exo a C none)) (hl : us.length ≤ sizeLine)
    (h : ∀ s', Inv X pins σ H s' → Q .none s') : wpAny (model X.prog X.w) A (call (.builtin initId) (.ref a :: us)) Q E s := by
  obtain ⟨nm, N, qn, bs, bm, hd, sn, sub, ab, col, dd, k0, k1, k2, k3, k5, hC, hT⟩ := excInit_of I.kIn O.ini
  obtain ⟨t1, ho⟩ := exo_at I.hok e
  obtain ⟨hp, g, d, t, os⟩ := s
  refine wpAny_call (HandSPX.init_base O.F hT hC ho hl fun h' t2 keep hx => ?_)
  have J := I.write (t' := t) (x := a) (e := a) (o := exo a C none) (by rw [e]; exact True.intro) (.inl rfl) keep ⟨_, hx⟩ (exo_ok hx)
  have same : upd H a (exo a C none) = H := funext fun b => by
    by_cases hb : b = a
    · subst hb; rw [upd_same, e]
    · rw [upd_ne hb]
  rw [same] at J
  exact h _ J
end
/-- B.__init__(self, ..) -/
def tBI (K : Frag) (B initId : String) (ta : TA) : TE := fun σ H Q => ta σ H fun vs H1 => ∃ (a C : Addr) (ws : List V) (newId : String) (bmB : List Value), vs = .ref a :: ws ∧ ws.length ≤ 1000 ∧ Own K C B newId initId bmB ∧ H1 a = some (exo a C none) ∧ Q .non H1
/-- self.f = e -/
def tSt (K : Frag) (f : Str) (to te : TE) : TS := fun D σ H => te σ H fun y H1 => to σ H1 fun x H2 => ∃ a C : Addr, x = .ref a ∧ OwnX K C ∧ takerIn K C f = some none ∧
  ((H2 a = some (exo a C none) ∧ ∀ dx, H2 dx = none → dx ≠ a → D.nx σ (upd (upd H2 dx (exd dx [(f, y)])) a (exo a C (some dx)))) ∨
    ∃ (dx : Addr) (fs : List (Str × V)), H2 a = some (exo a C (some dx)) ∧ H2 dx = some (exd dx fs) ∧ fs.length ≤ 900 ∧ D.nx σ (upd H2 dx (exd dx ((f, y) :: fs))))
section
variable {X : Cx} {o e : Expr} {es : List Expr} {to te : TE} {ta : TA} {f : Str} {p p' p1 p2 pos : Pos}
theorem ps_st (ho : PE X o to) (he : PE X e te) (hs : swapsWith e (some (.Attribute o f p')) pos.line X.env = pure false := by rfl) : PS X (.Assign [.Attribute o f p'] e pos) (tSt X.K f to te) := by
  refine ⟨fun pins s σ H D I h => plainObj_wpAny_Assign_Attribute (thn (he.run pins s σ H _ I h) fun v s1 hv => ?_) hs⟩
  obtain ⟨y, H1, I1, ry, q1⟩ := hv
  refine thn (ho.run pins s1 σ H1 _ I1 q1) fun v2 s2 hv2 => ?_
  obtain ⟨x, H2, I2, rx, a, C, ex, O, ht, q⟩ := hv2
  subst ex
  have ea : v2 = Value.ref a := rx
  subst ea
  rcases q with ⟨e1, q⟩ | ⟨dx, fs, e1, e2, hl, q⟩
  · exact first_inv O I2 e1 ht ry fun dx s' n ne J => ⟨σ, _, J, q dx n ne⟩
  · exact next_inv O I2 e1 e2 hl ht ry fun s' J => ⟨σ, _, J, q⟩
theorem pe_binit {x : Str} {B initId : String} {pl : Sem Bool} (hg : Gl X x) (hm : X.mg x = none) (hv : bootBuiltins x = some (.type B)) (hn : x ≠ "__name__") (hdb : (x == ("__debug__" : Str)) = false)
    (ty : typeOf (.type B) = pure (.type "type")) (stub : Manifest.isStub B = false) (vV : findCls X.K (.type B) (.type "type") "__init__" = some (.val (.builtin initId))) (hh : handedIn (.builtin initId) = true)
    (ha : PA X (e :: es) ta)
    (hc : eval (.Call (.Attribute (.Name x p1) "__init__" p2) (e :: es) [] pos) X.env = (do
      let ov ← eval (.Name x p1) X.env
      standAt p2.atName
      let (f, first) ← holding [ov] (getMethod ov "__init__" pl)
      callWith pos f first (backTo pos (starEach (e :: es) X.env)) (backToKw pos (keywordEach [] X.env))) := by rfl)
    (he : starEach (e :: es) X.env = (false, eval e X.env) :: starEach es X.env := by rfl) (hpl : (backTo pos (starEach es X.env)).any (·.1) = false := by rfl) :
    PE X (.Call (.Attribute (.Name x p1) "__init__" p2) (e :: es) [] pos) (tBI X.K B initId ta) := by
  refine ⟨fun pins s σ H Q I h => methodCall_KW (ld_blt I hg hm hv ?_ hn hdb) hc⟩
  obtain ⟨m, fr⟩ := I.fr
  refine method_type fr I.ok.mod.kin ty stub vV hh ?_
  show wpAny _ _ (callWith pos (Value.builtin initId) [] (backTo pos (starEach (e :: es) X.env)) []) _ _ _
  refine PyProof.Rows.callWith_method1 (thn (ha.run pos pins _ σ H _ (I.tok _) h) fun us s1 hu => ?_) he hpl
  obtain ⟨vs, H1, I1, r1, a, C, ws, n', b', ev, hl, O, ea, q⟩ := hu
  subst ev
  cases r1 with
  | @cons _ u0 _ ur ra rr =>
    have e0 : u0 = Value.ref a := ra
    subst e0
    have hlen : ur.length ≤ sizeLine := by rw [← Paired.length rr, sizeLine_eq]; omega
    exact init_inv O I1 ea hlen fun s' J => ⟨.non, H1, J, rfl, q⟩
/-- C(..), its __init__ keeping sp -/
def tMk (C : Addr) (sp : Sp) (dvs : List V) (ta : TA) : L2.St → Hp → XK → Prop := fun σ H Q => ta σ H fun vs H1 => vs.length ≤ 1000 ∧ ∀ a, H1 a = none → sp (.ref a :: (vs ++ dvs)) (upd H1 a (exo a C none))
  (fun v H2 => v = .non ∧ ∃ (d : Addr) (fs : List (Str × V)), H2 a = some (exo a C (some d)) ∧ H2 d = some (exd d fs) ∧ H1 d = none ∧ Q (.ref C) (some d) (upd (del H2 a) d (.xd fs))) L2.E0
theorem call_own {CX : CXT} {C fI : Addr} {k : Nat} {fd : FuncData} {ps : List Str} {sp : Sp} {ds us : List Value} {dvs vs : List V} {pins : List (Addr × Obj)} {σ : L2.St} {H : Hp} {s : Shared} {Q : XK} (O : OwnX X.K C)
    (iC : findIn X.K (.ref C) "__init__" = some (some (.ref fI))) (tI : typeIn X.K (.ref fI) = some (.type "function")) (F1 : FnOk X.prog X.w X.K X.mg X.base CX k fI fd ps sp) (hr : Room (k + 1) X.A) (hb : Binds X.K fd ps ds) (hd : Vals dvs ds) (hx : Passes CX X L2.E0)
    (I : Inv X pins σ H s) (r : Vals vs us) (hl : vs.length ≤ 1000) (q : ∀ a, H a = none → sp (.ref a :: (vs ++ dvs)) (upd H a (exo a C none))
      (fun v H2 => v = .non ∧ ∃ (d : Addr) (fs : List (Str × V)), H2 a = some (exo a C (some d)) ∧ H2 d = some (exd d fs) ∧ H d = none ∧ Q (.ref C) (some d) (upd (del H2 a) d (.xd fs))) L2.E0) :
    wpAny (model X.prog X.w) X.A (call (.ref C) us) (L2N.MkP X pins σ Q) X.xe s := by
  obtain ⟨B, newId, initId, bmB, O⟩ := O
  obtain ⟨nm, N, qn, bs, bm, hdc, sn, sub, ab, col, dd, k0, k1, k2, k3, k5, hC, hT⟩ := excInit_of I.kIn O.ini
  obtain ⟨hp, g, dr, tk, os⟩ := s
  have big : hp.objs.size ≤ hp.objs.size + 1 := Nat.le_succ _
  have q2 := q (hp.objs.size + 1) (I.hok.fresh big)
  have keep : ∀ b o, hp.get? b = some o → ((hp.push (kdv_tup us)).push (HandSPX.excO C hp.objs.size)).get? b = some o := fun b o z => Heap.get?_push_of_some _ (Heap.get?_push_of_some _ z)
  have new : ((hp.push (kdv_tup us)).push (HandSPX.excO C hp.objs.size)).get? (hp.objs.size + 1) = some (HandSPX.excO C hp.objs.size) := by heap_get
  have I2 := I.laid (t' := tk) (o := exo (hp.objs.size + 1) C none) keep big (exo_ok new)
  have r2 : Vals (V.ref (hp.objs.size + 1) :: (vs ++ dvs)) (Value.ref (hp.objs.size + 1) :: (us ++ ds)) := .cons rfl (r.append hd)
  have len2 : (Value.ref (hp.objs.size + 1) :: us ++ ds).length = ps.length := (r2.length.symm.trans (F1.len _ _ _ _ q2))
  have lenU : us.length ≤ sizeLine := by rw [← Paired.length r, sizeLine_eq]; omega
  have run := F1.run _ X.stack _ _ ⟨Value.ref (hp.objs.size + 1) :: us, []⟩ (Value.ref (hp.objs.size + 1) :: (us ++ ds)) _ _ L2.E0 (hr.make C us []) (I2.env0.make C us []) (hb _ (Value.ref (hp.objs.size + 1) :: us) I2.kIn len2) r2 q2
  refine wpAny_call (HandSPX.call_own O.F hT hC (looks_findIn I.kIn iC) (fun self => bind_fn I.kIn self tI) lenU (codeAny_mono run fun res s' hq => ?_))
  cases res with
  | error er => exact hx pins σ _ _ er s' I2 hq
  | ok fl =>
    cases fl with
    | next => exact False.elim hq
    | brk => exact False.elim hq
    | cont => exact False.elim hq
    | ret u =>
      obtain ⟨v, H2, os2, bare2, un2, hok2, rv, ev, d, fs, ea, ed, hd1, qq⟩ := hq
      subst ev
      obtain ⟨h2, g2, d2, t2, os'⟩ := s'
      obtain ⟨t0, G, J, kG, ge, hoe, na⟩ := mk_end0 (d2 := d2) (t2 := t2) I big keep un2 hok2 os2 bare2 ea ed hd1
      refine ⟨rv, hp.objs.size + 1, _, _, ⟨G, g2, d2, t2, os'⟩, _, .ref C, some d, rfl, J, kG, ge, hoe, ⟨rfl, rfl, fun vs e => ?_⟩, rfl, rfl, na, rfl, bare2, raises_own O.exC O.tyC, qq⟩
      cases e
      rfl
section
variable {CX : CXT} {x : Str} {C fI : Addr} {k : Nat} {fd : FuncData} {ps : List Str} {sp : Sp} {ds : List Value} {dvs : List V}
theorem pmk0 (O : OwnX X.K C) (iC : findIn X.K (.ref C) "__init__" = some (some (.ref fI))) (tI : typeIn X.K (.ref fI) = some (.type "function")) (F1 : FnOk X.prog X.w X.K X.mg X.base CX k fI fd ps sp) (hr : Room (k + 1) X.A) (hb : Binds X.K fd ps ds) (hd : Vals dvs ds) (hx : Passes CX X L2.E0)
    (hg : Gl X x) (hm : X.mg x = some (.ref C)) (hdb : (x == ("__debug__" : Str)) = false := by decide) : L2N.PMk X (.Call (.Name x p) [] [] pos) (tMk C sp dvs tNil) := by
  intro pins s σ H Q I h
  obtain ⟨hl, q⟩ := h
  have O' := O
  obtain ⟨B, newId, initId, bmB, OB⟩ := O'
  refine wpAny_Call_Name_kw (ld_glob I hg hm ?_ hdb)
  exact callWith_K0 I.kIn OB.kC (call_own (us := []) O iC tI F1 hr hb hd hx I .nil hl q)
theorem pmk1 (O : OwnX X.K C) (iC : findIn X.K (.ref C) "__init__" = some (some (.ref fI))) (tI : typeIn X.K (.ref fI) = some (.type "function")) (F1 : FnOk X.prog X.w X.K X.mg X.base CX k fI fd ps sp) (hr : Room (k + 1) X.A) (hb : Binds X.K fd ps ds) (hd : Vals dvs ds) (hx : Passes CX X L2.E0)
    (hg : Gl X x) (hm : X.mg x = some (.ref C)) (ha : PA X (e :: es) ta) (hdb : (x == ("__debug__" : Str)) = false := by decide) (he : starEach (e :: es) X.env = (false, eval e X.env) :: starEach es X.env := by rfl) (hpl : (backTo pos (starEach es X.env)).any (·.1) = false := by rfl) :
    L2N.PMk X (.Call (.Name x p) (e :: es) [] pos) (tMk C sp dvs ta) := by
  intro pins s σ H Q I h
  have O' := O
  obtain ⟨B, newId, initId, bmB, OB⟩ := O'
  refine wpAny_Call_Name_kw (ld_glob I hg hm ?_ hdb)
  refine callWith_K (h₀ := X.base) I.ok.mod.kin OB.kC (thn (ha.run pos pins s σ H _ I h) fun us s1 hu => ?_) he hpl
  obtain ⟨vs, H1, I1, r1, hl, q⟩ := hu
  exact ⟨I1.kIn, call_own O iC tI F1 hr hb hd hx I1 r1 hl q⟩
end
end
/-- C0.__init__(self, ..), read off the class at C0: a def of the text -/
theorem pe_cinit {X : Cx} {CX : CXT} {k : Nat} {f C : Addr} {fd : FuncData} {ps : List Str} {sp : Sp} {E : XK} {x : Str} {ds : List Value} {dvs : List V} {e : Expr} {es : List Expr} {ta : TA} {p1 p2 pos : Pos} {pl : Sem Bool}
    (F1 : FnOk X.prog X.w X.K X.mg X.base CX k f fd ps sp) (hr : Room k X.A) (hg : Gl X x) (hm : X.mg x = some (.ref C)) (rd : readsIn X.K C (.type "type") = true) (sg : specialIn X.K (.ref C) "__getattribute__" = some (some (.builtin "type.__getattribute__")))
    (fc : findCls X.K (.ref C) (.type "type") "__init__" = some (.val (.ref f))) (hk : keepIn X.K (.ref f) = true) (hb : Binds X.K fd ps ds) (hd : Vals dvs ds) (hx : Passes CX X E) (ha : PA X (e :: es) ta) (hdb : (x == ("__debug__" : Str)) = false := by decide)
    (hc : eval (.Call (.Attribute (.Name x p1) "__init__" p2) (e :: es) [] pos) X.env = (do
      let ov ← eval (.Name x p1) X.env
      standAt p2.atName
      let (f, first) ← holding [ov] (getMethod ov "__init__" pl)
      callWith pos f first (backTo pos (starEach (e :: es) X.env)) (backToKw pos (keywordEach [] X.env))) := by rfl)
    (he : starEach (e :: es) X.env = (false, eval e X.env) :: starEach es X.env := by rfl) (hpl : (backTo pos (starEach es X.env)).any (·.1) = false := by rfl) :
    PE X (.Call (.Attribute (.Name x p1) "__init__" p2) (e :: es) [] pos) (tCall sp dvs E ta) := by
  constructor
  intro pins s σ H Q I h
  refine methodCall_KW (ld_glob I hg hm ?_ hdb) hc
  refine method_cls I.kIn sg (cls_value I.kIn rd fc rfl ?_)
  have J := I.tok (s.toks + 1)
  refine callWith_K (h₀ := X.base) J.ok.mod.kin hk (thn (ha.run pos pins _ σ H _ J h) fun us s1 hu => ?_) he hpl
  obtain ⟨vs, H1, I1, r1, q1⟩ := hu
  exact ⟨I1.kIn, run_fn F1 hr hb hd hx I1 r1 q1⟩
end ExB

namespace TrT
open PySem PySem.Spec PyProof.Rows L2 PySem.W
/-! try with clauses of two classes each, the exception held by a name and known as a value -/
/-- at a: an exception of the class cls, its dict d -/
def exq (a : Addr) (cls : Value) (d : Option Addr) : HO := .ext fun h => ∃ (o : Obj) (vs : Array Value), h.get? a = some o ∧ L2N.Zn cls d o ∧ o.data = .fields vs
theorem exq_ok {P : Program} {w : World} {H : Hp} {h : Heap} {a : Addr} {cls : Value} {d : Option Addr} {o : Obj} {vs : Array Value} (e : h.get? a = some o) (z : L2N.Zn cls d o) (hd : o.data = .fields vs) : ObjOk P w H h a (exq a cls d) :=
  ⟨⟨o, vs, e, z, hd⟩, ⟨o, e⟩, fun h1 h2 q k => by
    obtain ⟨o', vs', e', z', d'⟩ := q
    exact ⟨o', vs', k _ e', z', d'⟩⟩
theorem exq_at {P : Program} {w : World} {H : Hp} {h : Heap} {a : Addr} {cls : Value} {d : Option Addr} (hok : HOk P w H h) (e : H a = some (exq a cls d)) : ∃ (o : Obj) (vs : Array Value), h.get? a = some o ∧ L2N.Zn cls d o ∧ o.data = .fields vs := by
  have x : ObjOk P w H h a (.ext fun h => ∃ (o : Obj) (vs : Array Value), h.get? a = some o ∧ L2N.Zn cls d o ∧ o.data = .fields vs) := hok a _ e
  exact x.1
section
variable {X : Cx} {pins : List (Addr × Obj)} {σ : L2.St} {H : Hp} {sI s' : Shared} {B : Heap} {a : Addr} {cls : Value} {d : Option Addr} {oe : Obj} {vs : Array Value}
/-- on the ground again, the exception tracked -/
theorem landX (I : Inv X pins σ H sI) (nb : ∀ b o, sI.heap.get? b = some o → b ∉ frs X.stack → B.get? b = some o) (st : B.StaysIn s'.heap) (up : sI.heap.UpToSlots s'.heap) (os : s'.os = sI.os) (ag : AllBare s'.gens)
    (hB : B.get? a = none) (nf : a ∉ frs X.stack) (he : s'.heap.get? a = some oe) (hz : L2N.Zn cls d oe) (hd : oe.data = .fields vs) (na : H a = none) : Inv X pins σ (upd H a (exq a cls d)) s' := by
  have new : ∀ b o, sI.heap.get? b = some o → b ≠ a := fun b o e z => by
    subst z
    rw [nb _ o e nf] at hB
    cases hB
  have fr : ∀ b ∈ frs X.stack, ∀ o, sI.heap.get? b = some o → ∃ sl, s'.heap.get? b = some { o with slots := sl } := fun b hb o e => by
    obtain ⟨_, o2, e2, hn⟩ := I.stack.mem hb
    rw [e] at e2
    cases e2
    exact up b o e hn
  have old : ∀ {b : Addr} {o : HO}, H b = some o → upd H a (exq a cls d) b = some o := fun e => by rw [upd_ne (ne_of_none e na)]; exact e
  have hok : HOk X.prog X.w H s'.heap := (I.inGround nb).kept st
  refine I.call' (s' := s') (ch := []) os (Un.mk (fun b o e _ hb _ => st b o (nb b o e hb)) (fun b o e _ hb _ => fr b hb o e) (fun b o e n _ => by rw [upd_ne (new b o e)]; exact n) (fun b o e _ => ?_) (fun b xs e => old e) (fun b o u e => old e) (fun b ps e => ⟨#[], by rw [old e]; simp⟩)) (fun b o q => ?_) ag (fun _ z => nomatch z)
  · by_cases hb : b ∈ frs X.stack
    · obtain ⟨sl, q⟩ := fr b hb o e
      exact ⟨_, q⟩
    · exact ⟨o, st b o (nb b o e hb)⟩
  · by_cases hb : b = a
    · subst hb
      rw [upd_same] at q
      cases q
      exact exq_ok he hz hd
    · rw [upd_ne hb] at q
      exact (hok b o q).stay (fun c u _ z => z) (fun c z => old z) fun c xs z => old z
theorem toSuite (I : Inv X pins σ H s') : Inv (X.suite a (X.pn ++ pins)) [] σ H s' :=
  ⟨I.ok.suite _ _, I.os, I.bare, I.base, I.loc, I.cell, I.free, I.freeC, fun p hp => I.pin p (by rw [List.append_nil] at hp; exact hp), I.hok, I.len⟩
theorem ofSuite {pn : List (Addr × Obj)} (I : Inv (X.suite a (X.pn ++ pins)) pn σ H s') (ok : X.Ok) : Inv X pins σ H s' :=
  ⟨ok, I.os, I.bare, I.base, I.loc, I.cell, I.free, I.freeC, fun p hp => I.pin p (List.mem_append_left _ hp), I.hok, I.len⟩
theorem fly_push {l : List Env} {Z : Obj → Prop} {h : Heap} (x : HandSPX.FlyingZ B l a Z h) (o : Obj) : HandSPX.FlyingZ B l a Z (h.push o) := by
  obtain ⟨h1, h2, h3, oe, vs, T, oT, ts, e1, e2, e3, e4, e5, e6, e7, e8, e9⟩ := x
  exact ⟨fun b u e => Heap.get?_push_of_some _ (h1 b u e), h2, Heap.FunFrames.of_keeps (fun b u e _ => ⟨u, Heap.get?_push_of_some _ e, rfl⟩) h3, oe, vs, T, oT, ts, Heap.get?_push_of_some _ e1, e2, e3, e4, e5, e6, Heap.get?_push_of_some _ e7, e8, e9⟩
end
/-- the slot of the name is emptied behind a suite -/
def endAs (i : Nat) (D : Ends) : Ends := { nx := fun σ H => D.nx (σ.set i none) H, rt := D.rt, bk := fun σ H => D.bk (σ.set i none) H, ct := fun σ H => D.ct (σ.set i none) H }
abbrev Cl := (Value × Value) × (Addr → TS)
/-- what the clauses wish -/
def wTup (K : Frag) (Wout : WX) (D : Ends) (i : Nat) : List Cl → WX
  | [] => Wout
  | (c, ts) :: r => fun cls d σ H => ∃ b, exmAny K cls [c.1, c.2] = some b ∧ (b = true → ∀ a, H a = none → ts a (endAs i D) (σ.set i (some (.ref a))) (upd H a (exq a cls d))) ∧ (b = false → wTup K Wout D i r cls d σ H)
inductive HdsT (X : Cx) (n : Str) : List ExceptHandler → List Cl → Prop
  | nil : HdsT X n [] []
  | cons {x y : Str} {c1 c2 : Value} {ts : Addr → TS} {b₀ : Stmt} {suite : List Stmt} {p1 p2 p3 pos : Pos} {kx} {hds : List ExceptHandler} {l : List Cl} (g1 : Gl X x) (m1 : X.mg x = some c1) (d1 : (x == ("__debug__" : Str)) = false) (g2 : Gl X y) (m2 : X.mg y = some c2) (d2 : (y == ("__debug__" : Str)) = false)
      (hsu : ∀ (a : Addr) (pn : List (Addr × Obj)), PSs (X.suite a pn) (b₀ :: suite) (ts a)) (r : HdsT X n hds l) :
      HdsT X n (.ExceptHandler (some (.Tuple [.Name x p1, .Name y p2] kx p3)) (some n) (b₀ :: suite) pos :: hds) (((c1, c2), ts) :: l)
section
variable {X : Cx} {n : Str} {i : Nat} {body : List Stmt} {h₀ : ExceptHandler} {hds : List ExceptHandler} {l : List Cl} {pos : Pos} {tb : WX → TS} {Wout : WX}
theorem ps_try_tup (hs : X.stack = X.env :: X.outer) (hf : X.env.frame = some X.env.locals) (hN : X.N.Nodup) (hi : X.N[i]? = some n) (hln : X.env.kindOf n = some .local) (tk : L2N.Takes X Wout)
    (hb : ∀ (W : WX) (pn : List (Addr × Obj)) (xe : Value → Shared → Prop), L2N.Takes (X.tr pn xe) W → PassesOwn (model X.prog X.w) X.A X.env xe → PSs (X.tr pn xe) body (tb W))
    (hh : HdsT X n (h₀ :: hds) l) : PS X (.Try body (h₀ :: hds) [] [] pos) (fun D σ H => tb (wTup X.K Wout D i l) D σ H) := by
  refine ⟨fun pins s σ H D I h => ?_⟩
  have ok := I.ok
  have hfr : X.A.frames = some (X.env :: X.outer) := by rw [ok.frames, hs]
  have hloc : Loc X.env.scope n := .inl hln
  refine wpAny_Try_except (wpAny_mono ((hb (wTup X.K Wout D i l) (X.pn ++ pins) _ (fun u s' xx => ?_) PassesOwn.looking).run [] s σ H D (I.toTry _) h) (fun f s1 hsp => ?_) (fun e s1 he => he))
  · obtain ⟨a, B, sI, pins', σ', H', cls, d, rfl, J', nb, up, sky, na, os, ag, wish⟩ := xx
    have J : Inv X pins σ' H' sI := J'.ofTry ok
    refine L2N.Sky.land L2N.Zn.steady hfr hf (by rw [← hs]; exact sky) fun h3 fl3 up3 => ?_
    have go : ∀ {hds' : List ExceptHandler} {l' : List Cl}, HdsT X n hds' l' → ∀ h3 : Heap, HandSPX.FlyingZ B (X.env :: X.outer) a (L2N.Zn cls d) h3 → sI.heap.UpToSlots h3 → wTup X.K Wout D i l' cls d σ' H' →
        wpAny (model X.prog X.w) X.A (handleBy (.ref a) X.env hds') (SP X pins D) X.xe { s' with heap := h3 } := by
      intro hds' l' hk
      induction hk with
      | nil =>
        intro h3 fl3 up3 w
        refine wpAny_handleBy_nil ?_
        obtain ⟨_, _, _, oe, vs, T, oT, ts', he, hz, hd, h1, hr⟩ := id fl3
        unfold PySem.passOn
        refine wpAny_bind (wpAny_field he hd h1 ?_)
        rw [if_neg (show ¬ ((Value.ref T == Value.none) = true) by simp)]
        have out : wpAny (model X.prog X.w) X.A (setFlight (.ref a) X.env.frame) (fun _ s4 => wpAny (model X.prog X.w) X.A (throw (.ref a) : Sem Flow) (SP X pins D) X.xe s4) X.xe { s' with heap := h3 } := by
          rw [hf]
          refine HandSPX.setFlight_upZ fl3 fun h4 held up4 => wpAny_throw (tk _ _ ?_)
          exact ⟨a, B, sI, pins, σ', H', cls, d, rfl, J, nb, up3.trans up4, .inr (.inr (by rw [hs]; exact held)), na, os, ag, w⟩
        first
          | exact wpAny_bind (wpAny_pure (wpAny_bind out))
          | exact wpAny_bind out
      | @cons x y c1 c2 ts b₀ suite p1 p2 p3 pos' kx hds2 l2 g1 m1 d1 g2 m2 d2 hsu r ih =>
        intro h3 fl3 up3 w
        obtain ⟨b, hb1, hyes, hno⟩ := w
        have J3 : Inv X pins σ' H' { s' with heap := h3 } := J.landed nb fl3.1 up3 os ag
        obtain ⟨oe3, vs3, he3, hz3, hd3⟩ := fl3.there
        have nfr : a ∉ frs (X.env :: X.outer) := fun hm => by
          obtain ⟨_, o2, e2, hn⟩ := fl3.2.2.1.mem hm
          rw [he3] at e2
          cases e2
          exact hn _ hd3
        have S3 : Inv (X.suite a (X.pn ++ pins)) [] σ' H' { s' with heap := h3 } := toSuite J3
        refine wpAny_handleBy_cons (codeAny_handlers_test ?_) (by intro q; cases q)
        refine wpAny_Tuple_spliced ?_
        show wpAny _ _ (spliced [(false, eval (.Name x p1) X.env), (false, eval (.Name y p2) X.env)]) _ _ _
        refine Calls.spliced_cons (ld_glob (X := X.suite a (X.pn ++ pins)) S3 g1 m1 (Calls.spliced_cons (ld_glob (X := X.suite a (X.pn ++ pins)) S3 g2 m2 (Calls.spliced_nil ⟨by show 2 ≤ sizeLine; decide, ?_⟩) d2)) d1)
        have flp := fly_push fl3 { cls := .type "tuple", data := .seq [c1, c2].toArray }
        have upp : sI.heap.UpToSlots (h3.push { cls := .type "tuple", data := .seq [c1, c2].toArray }) := up3.trans (Heap.UpToSlots.of_keeps fun b o e => Heap.get?_push_of_some _ e)
        have Kp := J3.kIn.keeps fun b o e => Heap.get?_push_of_some { cls := .type "tuple", data := .seq [c1, c2].toArray } e
        have LT : Looks (model X.prog X.w) (h3.push { cls := .type "tuple", data := .seq [c1, c2].toArray }) (typeOf (.ref a)) cls := fun A Q E s k q => wpAny_typeOf_ref (k _ _ (Heap.get?_push_of_some _ he3)) (by rw [hz3.1]; exact q)
        have LM := exm_tup2 (M := model X.prog X.w) Kp LT (Heap.get?_push_size _ rfl) hb1
        refine LM.here ?_
        cases b with
        | true =>
          refine codeAny_handlers_suite_as (HandSPX.lands_againZ flp fun h4 fl4 up4 => ?_)
          obtain ⟨oe4, vs4, he4, hz4, hd4⟩ := fl4.there
          have J4 : Inv X pins σ' (upd H' a (exq a cls d)) { s' with heap := h4 } := landX J nb fl4.1 (upp.trans up4) os ag fl4.2.1 (by rw [hs]; exact nfr) he4 hz4 hd4 na
          refine store_ok (X := X.suite a (X.pn ++ pins)) (v := .ref a) (toSuite J4) hN hi hloc rfl (fun s5 S5 => ?_) (.inr hln)
          refine wpAny_mono ((hsu a (X.pn ++ pins)).run [] s5 _ _ _ S5 (hyes rfl a na)) (fun f s6 hsp => ?_) (fun _ _ z => False.elim z)
          have fin : ∀ {σ6 : L2.St} {H6 : Hp} {Q : Shared → Prop}, Inv (X.suite a (X.pn ++ pins)) [] σ6 H6 s6 → (∀ s7, Inv X pins (σ6.set i none) H6 s7 → Q s7) →
              wpAny (model X.prog X.w) X.A (do bindName X.env n .none; unbindBehindTheSuite X.env n pos') (fun _ s7 => Q s7) X.xe s6 := fun S6 hq => gone_ok (ofSuite S6 ok) hN hi hln hq
          cases f with
          | next =>
            obtain ⟨σ6, H6, S6, q6⟩ := hsp
            exact fin S6 fun s7 J7 => ⟨_, _, J7, q6⟩
          | brk =>
            obtain ⟨σ6, H6, S6, q6⟩ := hsp
            exact fin S6 fun s7 J7 => ⟨_, _, J7, q6⟩
          | cont =>
            obtain ⟨σ6, H6, S6, q6⟩ := hsp
            exact fin S6 fun s7 J7 => ⟨_, _, J7, q6⟩
          | ret u =>
            obtain ⟨v6, σ6, H6, S6, r6, q6⟩ := hsp
            exact fin S6 fun s7 J7 => ⟨_, _, _, J7, r6, q6⟩
        | false =>
          show wpAny _ X.A (handleBy (.ref a) X.env hds2) _ _ _
          exact ih _ flp upp (hno rfl)
    exact go hh h3 fl3 (up.trans up3) wish
  · cases f with
    | next =>
      obtain ⟨σ', H', J', q⟩ := hsp
      exact wpAny_execs_nil ⟨σ', H', J'.ofTry ok, q⟩
    | brk =>
      obtain ⟨σ', H', J', q⟩ := hsp
      exact ⟨σ', H', J'.ofTry ok, q⟩
    | cont =>
      obtain ⟨σ', H', J', q⟩ := hsp
      exact ⟨σ', H', J'.ofTry ok, q⟩
    | ret u =>
      obtain ⟨v, σ', H', J', r, q⟩ := hsp
      exact ⟨v, σ', H', J'.ofTry ok, r, q⟩
/-- e.f of an exception that is known as a value -/
def tXq (K : Frag) (f : Str) (te : TE) : TE := fun σ H Q => te σ H fun x H1 => ∃ (a C dd : Addr) (fs : List (Str × V)) (v : V), x = .ref a ∧ H1 a = some (exq a (.ref C) (some dd)) ∧ H1 dd = some (.xd fs) ∧ fs.lookup f = some v ∧ XfC K C ∧ findIn K (.ref C) f = some none ∧ Q v H1
theorem pe_xq {X : Cx} {e : Expr} {te : TE} {f : Str} {pos : Pos} (he : PE X e te) (hb : attributeBase e f X.env (eval e X.env) = eval e X.env := by rfl) : PE X (.Attribute e f pos) (tXq X.K f te) := by
  refine ⟨fun pins s σ H Q I h => attr_of hb (thn (he.run pins s σ H _ I h) fun u s1 hh => ?_)⟩
  obtain ⟨x, H1, I1, rx, a, C, dd, fs, v, ex, ea, ed, l, T, hno, q⟩ := hh
  subst ex
  have eu : u = Value.ref a := rx
  subst eu
  obtain ⟨o, vs, ha, hz, hd⟩ := exq_at I1.hok ea
  have hx : ObjOk X.prog X.w H1 s1.heap dd (.xd fs) := I1.hok dd _ ed
  obtain ⟨mA, hns, hr⟩ := hx
  obtain ⟨od, ho, hl⟩ := lookIn_ns hns
  obtain ⟨u, hu, ru⟩ := RelO.some_of (v := v) (o := mA f) (by rw [← l]; exact hr f)
  have J : InstAt s1.heap a o C (some od) := ⟨ha, hz.1, by unfold notCls; rw [hd] <;> rfl, by rw [hz.2.1]; exact ho⟩
  exact HandSPX.exc_get I1.kIn J T.ga T.gg T.exC (findObj_own T.hdC hno rfl (by rw [hl, hu])) (handed_of ru) ⟨v, H1, I1.tok _, ru, q⟩
/-! a, b = x, y within a suite -/
section
variable {prog : Program} {w : World} {A : Around} {E : Value → Shared → Prop} {s : Shared}
theorem tuple_end_hot {it t x1 : Addr} {i : Nat} {items : Array Value} {Q : Option Value → Shared → Prop} (hot : HotX.HotAt A x1 s.heap) (ne : x1 ≠ it) (hit : IsTupIter s.heap it t i) (ht : IsTup s.heap t items) (hx : items[i]? = none)
    (hQ : ∀ h', (∀ b o, b ≠ it → s.heap.get? b = some o → h'.get? b = some o) → Q none { s with heap := h' }) : wpAny (model prog w) A (pyNext (.ref it)) Q E s := by
  obtain ⟨hh, o1, v1, g1, d1, c1⟩ := hot
  obtain ⟨o, ho, hc, hd⟩ := id hit
  obtain ⟨ol, hol, _, nl, hdl⟩ := ht
  unfold pyNext
  refine wpAny_bind (wpAny_attempt (wpAny_callSpecial?_slot (name := Str.ofString "__next__") hit.typeIs slot_tupleiter_next (wpAny_call_entry slot_tupleiter_next hit.typeIs entry_tupleiter_next ?_ (args_tupleiter_next _))))
  show wpAny _ _ (bind (field (.ref it) 0) _) _ _ _
  refine wpAny_bind (wpAny_field ho hd (x := .ref t) rfl ?_)
  show wpAny _ _ (ite ((Value.ref t == Value.none) = true) _ _) _ _ _
  rw [if_neg (show ¬ ((Value.ref t == Value.none) = true) by simp)]
  show wpAny _ _ (bind (field (.ref it) 1) _) _ _ _
  refine wpAny_bind (wpAny_field ho hd (x := .int i 0) rfl ?_)
  show wpAny _ _ (bind (seqItems? (.ref t)) _) _ _ _
  refine wpAny_bind (wpAny_seqItems hol hdl ?_)
  simp only [Int.toNat_natCast, hx]
  refine wpAny_bind (wpAny_rule (wpAny_bind (wpAny_setField ho hd (by simp) ?_)))
  show wpAny _ _ (bind (newExc (.type "StopIteration") []) _) _ _ _
  refine wpAny_bind ?_
  simp only [newExc, newTuple]
  refine wpAny_bind (wpAny_newObj_type ?_ (by size_fits))
  refine wpAny_bind (m := firstArgMember _ _) (wpAny_of_eq (a := Value.none) (by first | rfl | (simp only [firstArgMember]; rfl)) (wpAny_newObj_type ?_ (by size_fits)))
  have gx : ∀ {b : Addr} {u : Obj}, b ≠ it → s.heap.get? b = some u → (s.heap.update it (Obj.mapFields (·.setIfInBounds 0 Value.none))).get? b = some u := fun hb e => (Heap.get?_update_other _ _ (Ne.symm hb)).trans e
  have g3 := Heap.get?_push_of_some { cls := .type "tuple", data := .seq #[] } (gx ne g1)
  refine HotX.raiseNew_hot ⟨hh, o1, v1, Heap.get?_push_of_some _ g3, d1, c1⟩ (Nat.ne_of_lt (Heap.lt_size g3)) (Heap.get?_push_size _ rfl) rfl (by first | (simp; done) | (simp; omega) | (simp only [Array.size_append]; simp; omega)) ?_
  refine wpAny_bind (wpAny_isInstance (T := "StopIteration") (b := true) ⟨_, Heap.get?_update_self _ (Heap.get?_push_size _ rfl) rfl, rfl⟩ isSubtype_stop ?_)
  refine wpAny_pure (hQ _ fun b u hb e => ?_)
  have e2 := Heap.get?_push_of_some { cls := .type "tuple", data := .seq #[] } (gx hb e)
  rw [Heap.get?_update_other _ _ (Nat.ne_of_gt (Heap.lt_size e2))]
  exact Heap.get?_push_of_some _ e2
theorem unpack_hot {t x1 : Addr} {items : Array Value} {Q : List Value → Shared → Prop} (hot : HotX.HotAt A x1 s.heap) (ht : IsTup s.heap t items)
    (hQ : ∀ h', (∀ b o, s.heap.get? b = some o → h'.get? b = some o) → Q items.toList { s with heap := h' }) : wpAny (model prog w) A (unpackItems (.ref t) items.size none) Q E s := by
  have hlt : t ≠ s.heap.objs.size := by obtain ⟨o, ho, _⟩ := ht; exact Nat.ne_of_lt (Heap.lt_size ho)
  obtain ⟨hh, o1, v1, g1, d1, c1⟩ := hot
  have ne : x1 ≠ s.heap.objs.size := Nat.ne_of_lt (Heap.lt_size g1)
  unfold unpackItems notIterableAtAll
  refine wpAny_bind (wpAny_bind (wpAny_specialOf ht.typeIs slot_tuple_iter.lookup (wpAny_pure ?_)))
  simp only [Bool.false_eq_true, if_false]
  refine wpAny_bind (wpAny_holding (iter_tuple ht (wpAny_bind (wpAny_holding (draw_tuple hlt items.size 0 _ _ ⟨_, Heap.get?_push_size _ rfl, rfl, rfl⟩ (ht.push _) (by omega) fun h₁ hit₁ hs₁ => ?_)))))
  have hall : List.take items.size (List.drop 0 items.toList) = items.toList := by rw [List.drop_zero]; exact List.take_of_length_le (by simp)
  rw [hall, if_neg (by simp)]
  have g2 : h₁.get? x1 = some o1 := (hs₁.2 x1 ne).trans (Heap.get?_push_of_some _ g1)
  refine wpAny_bind (wpAny_holding (tuple_end_hot (x1 := x1) ⟨hh, o1, v1, g2, d1, c1⟩ ne hit₁ ((ht.push _).extBut hs₁.extBut hlt) (by simp) fun h₂ he₂ => ?_))
  simp only [Option.isSome_none, Bool.false_eq_true, if_false]
  refine wpAny_pure (hQ h₂ fun b o e => ?_)
  have nb : b ≠ s.heap.objs.size := Nat.ne_of_lt (Heap.lt_size e)
  exact he₂ b o nb ((hs₁.2 b nb).trans (Heap.get?_push_of_some _ e))
end
/-- a, b = x, y where an exception is handled, known at a0 -/
def tParH (a0 : Addr) (i j : Nat) (ta : TA) : TS := fun D σ H => ta σ H fun vs H1 => ∃ v w cls d, vs = [v, w] ∧ H1 a0 = some (exq a0 cls d) ∧ D.nx ((σ.set i (some v)).set j (some w)) H1
theorem ps_parH {X : Cx} {a0 : Addr} {i j : Nat} {x y : Str} {a b : Expr} {ta : TA} {px py pt pos : Pos} {kt k2 pt2} (hh : X.A.handled = some (.ref a0)) (hN : X.N.Nodup) (hi : X.N[i]? = some x) (hj : X.N[j]? = some y) (hij : i ≠ j)
    (hx : X.env.scope.names.lookup x = some .local) (hy : X.env.scope.names.lookup y = some .local) (ha : PA X [a, b] ta)
    (hw : swappedStores [.Tuple [.Name x px, .Name y py] kt pt] (.Tuple [a, b] k2 pt2) X.env = pure (some [x, y]))
    (hs : swapsWithSole [.Tuple [.Name x px, .Name y py] kt pt] (.Tuple [a, b] k2 pt2) pos.line X.env = pure false := by rfl) :
    PS X (.Assign [.Tuple [.Name x px, .Name y py] kt pt] (.Tuple [a, b] k2 pt2) pos) (tParH a0 i j ta) := by
  refine ⟨fun pins s σ H D I h => ?_⟩
  rw [exec_Assign_arm]
  refine wpAny_bind (wpAny_standAt ?_)
  rw [hs]
  refine wpAny_bind (wpAny_pure ?_)
  rw [if_neg (by decide)]
  refine wpAny_bind (Tuple_ (thn (ha.run _ pins s σ H _ I h) fun us s1 hu => ?_))
  obtain ⟨vs, H1, I1, r1, v, w, cls, d, e1, ex, q1⟩ := hu
  subst e1
  obtain ⟨u1, u2, rfl, rv, rw'⟩ : ∃ u1 u2, us = [u1, u2] ∧ RelV v u1 ∧ RelV w u2 := by
    cases r1 with
    | cons p q => cases q with
      | cons p' q' => cases q'; exact ⟨_, _, rfl, p, p'⟩
  refine wpAny_newObj_type ?_ (by show 2 ≤ sizeLine; decide)
  have I2 : Inv X pins σ H1 { s1 with heap := s1.heap.push { cls := .type "tuple", data := .seq [u1, u2].toArray } } := I1.kept (t' := s1.toks) fun b o e => Heap.get?_push_of_some _ e
  obtain ⟨o, ws, ho, hz, hd⟩ := exq_at I2.hok ex
  rw [hw]
  refine wpAny_bind (wpAny_pure ?_)
  show wpAny (model X.prog X.w) X.A (do rule "assign.swapped-stores"; let items ← unpackItems (.ref s1.heap.objs.size) 2 none; assignInOrder [fun v => bindName X.env y v, fun v => bindName X.env x v] items.reverse; pure Flow.next) _ _ _
  refine wpAny_bind (wpAny_rule (wpAny_bind (unpack_hot (x1 := a0) (items := #[u1, u2]) ⟨hh, o, ws, ho, hd, hz.2.2 ws hd⟩ (IsTup.new s1.heap _) fun h' keep => ?_)))
  have I3 := I2.kept (h' := h') (t' := s1.toks) keep
  show wpAny _ _ (assignInOrder [fun v => bindName X.env y v, fun v => bindName X.env x v] [u2, u1] >>= fun _ => pure Flow.next) _ _ _
  refine wpAny_bind (assignInOrder_cons (wpAny_bindName (store_ok I3 hN hj (.inl hy) rw' (fun s2 I4 => ?_) (.inr hy))))
  refine assignInOrder_cons (wpAny_bindName (store_ok I4 hN hi (.inl hx) rv (fun s3 I5 => assignInOrder_nil (wpAny_pure ?_)) (.inr hx)))
  rw [List.set_comm _ _ (Ne.symm hij)] at I5
  exact ⟨_, H1, I5, q1⟩
end
end TrT

namespace LmN
open PySem PySem.Spec PyProof.Rows L2 PySem.W
/-! a lambda without parameters handed to a def that catches what it raises (context None) -/
/-- the context of the lambda's body -/
def lamC (X : Cx) (A : Around) (outer : List Env) (s : Shared) (H : Hp) (E : XK) (scope : Scope) (f c : Addr) : Cx :=
  (LamX.lamCx X A outer s H E scope f c).wish fun e s' => wpAny (model X.prog X.w) (A.deeper (LamX.lamEnv X scope s.heap.objs.size f c)) (leaving (LamX.lamEnv X scope s.heap.objs.size f c) e) (fun _ s2 => L2N.CX X.prog X.w outer H s E e s2) (fun e2 s2 => L2N.CX X.prog X.w outer H s E e2 s2) s'
/-- what its body lets out -/
theorem lam_takes {X : Cx} {A : Around} {outer : List Env} {s : Shared} {H : Hp} {E : XK} {scope : Scope} {f c : Addr} : L2N.Takes (lamC X A outer s H E scope f c) (fun cls d _ H => E cls d H) := L2N.takes_of rfl rfl rfl rfl
/-- what was handed over is called: slot i holds it, E and Q0 as narrow as one likes -/
def tAct (W : WX) (f c : Addr) (i : Nat) (q : Str) (tl : XK → Hp → VK → Prop) : TE := fun σ H Q => σ[i]? = some (some (.ref f)) ∧ H c = some (LamX.CodeO c q) ∧ ∃ (E : XK) (Q0 : VK), (∀ cls d H', E cls d H' → W cls d σ H') ∧ (∀ v H', Q0 v H' → Q v H') ∧ tl E H Q0
section
variable {X : Cx} {pins : List (Addr × Obj)} {σ : L2.St} {H : Hp} {s : Shared}
abbrev gCx (X : Cx) (CXg : CXT) (Eg : XK) (Ng : List Str) (qg : Str) (sg : Scope) (g : Addr) (cdg : Value) (s : Shared) (H : Hp) : Cx := cxOf CXg X.prog X.w X.K X.mg X.base Ng qg sg g cdg X.A X.stack s H Eg
theorem act {CXg : CXT} {Eg : XK} {Ng : List Str} {qg : Str} {sg : Scope} {g f c : Addr} {cdg pm ctv : Value} {params : Arguments} {body : Expr} {scope : Scope} {k i : Nat} {a : Str} {pn : List (Addr × Obj)} {xe : Value → Shared → Prop} {W : WX} {tb : XK → TE} {p1 p2 : Pos}
    (I : Inv X pins σ H s) (L : LamX.LamS X.env.scope scope) (hf : s.heap.get? f = some (kla_obj "<lambda>" (X.env.qual ++ "<lambda>") params body scope (cloFrom X.env.cells scope.names []) pm c ctv)) (nf : H f = none) (hfr : f ∉ frs X.stack)
    (hbind : bindArgs (kla_fn "<lambda>" (X.env.qual ++ "<lambda>") params body scope (cloFrom X.env.cells scope.names []) pm (.ref c) ctv) ⟨[], []⟩ = pure [])
    (tk : L2N.Takes ((gCx X CXg Eg Ng qg sg g cdg s H).tr pn xe) W) (hr : Room (k + 1) (X.A.deeper (envOfC qg sg s.heap.objs.size g cdg)))
    (hbody : ∀ (A : Around) (outer : List Env) (s : Shared) (H : Hp) (E : XK), Room k (A.deeper (LamX.lamEnv X scope s.heap.objs.size f c)) → PE (lamC X A outer s H E scope f c) body (tb E))
    (hN : Ng[i]? = some a) (hv : Vis sg a) (hd : (a == ("__debug__" : Str)) = false) (hcd : (a == ("__classdict__" : Str)) = false) :
    PE ((gCx X CXg Eg Ng qg sg g cdg s H).tr pn xe) (.Call (.Name a p1) [] [] p2) (tAct W f c i (X.env.qual ++ "<lambda>") fun E HZ Q => tb E σ HZ Q) := by
  refine ⟨fun pinsZ sZ σZ HZ Q IZ h => ?_⟩
  obtain ⟨hs, hc, E, Q0, hE, hQ, ht⟩ := h
  refine wpAny_Call_Name_kw (thn ((pe_var (pos := p1) (i := i) hN hv hd hcd).run pinsZ sZ σZ HZ (fun v H1 => v = .ref f ∧ H1 = HZ) IZ ⟨.ref f, hs, rfl, rfl⟩) fun u s1 hu => ?_)
  obtain ⟨v, H1, I1, r1, ev, eH⟩ := hu
  subst ev eH
  have eu : u = Value.ref f := r1
  subst eu
  have fo : s1.heap.get? f = _ := I1.base.keep f _ hf nf hfr (fun z => nomatch (show f ∈ ([] : List Addr) from z))
  refine callWith_F0 ⟨_, _, _, _, fo⟩ ?_
  obtain ⟨⟨oc, vs, t, hoc, hdc, hvc⟩, _, _⟩ := I1.hok c _ hc
  have rc : codeAny (model X.prog X.w) (X.A.deeper (envOfC qg sg s.heap.objs.size g cdg)) (.call (.ref f) ⟨[], []⟩) (CR (L2N.CX X.prog X.w) (envOfC qg sg s.heap.objs.size g cdg :: X.stack) X.prog X.w H1 s1 Q E) s1 := by
    refine kla_callFunE hr.depth fo rfl L.co L.gen rfl ⟨c, oc, vs, t, rfl, hoc, hdc, hvc⟩ ?_
    rw [hbind]
    refine wpAny_pure (wpAny_newFunctionEnv (fun y hy => (L.own y hy).2) (fun y hy => absurd hy (by simp)) (fun h₁ hns hsb => ⟨I1.nolimit.fresh _ hsb, ?_⟩) L.kind)
    show codeAny _ _ (.expr body (LamX.lamEnv X scope s1.heap.objs.size f c)) _ _
    have kp : ∀ b o, s1.heap.get? b = some o → h₁.get? b = some o := fun b o e => hsb.extBut b o (Nat.ne_of_lt (Heap.lt_size e)) (Heap.get?_push_of_some _ e)
    have un : Un (frs X.stack) [] H H1 s.heap s1.heap := I1.base
    have J0 := LamX.lam_start2 (A := X.A.deeper (envOfC qg sg s.heap.objs.size g cdg)) (outer := envOfC qg sg s.heap.objs.size g cdg :: X.stack) (E := E) (f := f) (c' := c) (tk := s1.toks + ([] : List (Str × Value)).length) I L I1.env0 hr.hd un hns kp
    have J : Inv (lamC X (X.A.deeper (envOfC qg sg s.heap.objs.size g cdg)) (envOfC qg sg s.heap.objs.size g cdg :: X.stack) s1 H1 E scope f c) [] σ H1 _ := J0.wish _
    refine kla_codeExpr (wpAny_mono ((hbody _ _ s1 H1 E (hr.deeper _)).run [] _ _ H1 Q0 J ht) (fun v s' hq => ?_) fun e s' hq => hq)
    obtain ⟨w', H', J', rv, q⟩ := hq
    exact ⟨w', H', J'.os, J'.bare, J'.base, J'.hok, rv, hQ _ _ q⟩
  refine wpAny_call (codeAny_mono rc fun r s' hq => ?_)
  cases r with
  | error e => exact tk e s' (L2N.XE.of_call I1 hE hq)
  | ok fl =>
    cases fl with
    | ret u => exact I1.after hq
    | next => exact False.elim hq
    | brk => exact False.elim hq
    | cont => exact False.elim hq
end
/-- the def that calls what it got: TT tells what it makes of the lambda's reading -/
def Gives (X : Cx) (Ng : List Str) (x : Str) (sg : Scope) (g : Addr) (cdg : Value) (bg : List Stmt) (a q : Str) (k : Nat) (TT : (XK → Hp → VK → Prop) → Hp → VK → Prop) : Prop :=
  ∀ (f c : Addr) (s : Shared) (H : Hp) (Q : VK) (tl : XK → Hp → VK → Prop), Room k (X.A.deeper (envOfC x sg s.heap.objs.size g cdg)) →
    (∀ (W : WX) (pn : List (Addr × Obj)) (xe : Value → Shared → Prop) (p1 p2 : Pos), L2N.Takes ((gCx X L2.CX0 L2.E0 Ng x sg g cdg s H).tr pn xe) W →
      PE ((gCx X L2.CX0 L2.E0 Ng x sg g cdg s H).tr pn xe) (.Call (.Name a p1) [] [] p2) (tAct W f c 0 q tl)) →
    H c = some (LamX.CodeO c q) → TT tl H Q →
    ∃ t, PSs (gCx X L2.CX0 L2.E0 Ng x sg g cdg s H).nox bg t ∧ t { nx := fun _ H' => Q .non H', rt := Q } (L2.start Ng [.ref f]) H
theorem pe_lam {X : Cx} {T : List (Addr × Str)} {TT : (XK → Hp → VK → Prop) → Hp → VK → Prop} {x a : Str} {g c P : Addr} {k : Nat} {pg : Arguments} {bg : List Stmt} {sg : Scope} {dV kV doc pm cdv ct oc : Value} {an od : Option Addr} {osl : Array (Option Value)} {Ng : List Str}
    {params : Arguments} {body : Expr} {scope : Scope} {t : XK → TE} {p lpos pos : Pos} (hg : Gl X x) (hm : X.mg x = some (.ref g)) (hk : keepIn X.K (.ref g) = true) (lk : X.K.lookup g = some ⟨oc, od, .func (fnOf x x pg bg sg dV kV doc pm an cdv ct), osl⟩) (hcg : codeIn X.K cdv x = true)
    (hb : L2.Binds X.K (fnOf x x pg bg sg dV kV doc pm an cdv ct) [a] []) (Sg : FnScope Ng [a] sg) (hNg : Ng[0]? = some a) (hva : Vis sg a) (hG : Gives X Ng x sg g cdv bg a (X.env.qual ++ "<lambda>") (k + 1) TT)
    (TB : LamX.TabB X.base X.mg c P) (hcode : X.env.code = .ref c) (hmT : (P, X.env.qual ++ "<lambda>") ∈ T) (hu : ∀ p ∈ T, p.1 = P → p.2 = X.env.qual ++ "<lambda>") (hr : Room (k + 2) X.A) (L : LamX.LamS X.env.scope scope) (hdef : defaultsOf params X.env = ([], []))
    (hbind : ∀ (q : Str) (cl : List (Str × Addr)) (pm cv ctv : Value), bindArgs (kla_fn "<lambda>" q params body scope cl pm cv ctv) ⟨[], []⟩ = pure [])
    (hbody : ∀ (A : Around) (outer : List Env) (s : Shared) (H : Hp) (E : XK) (f c' : Addr), Room k (A.deeper (LamX.lamEnv X scope s.heap.objs.size f c')) → PE (lamC X A outer s H E scope f c') body (t E))
    (hdb : (x == ("__debug__" : Str)) = false := by decide) (hd : (a == ("__debug__" : Str)) = false := by decide) (hcd : (a == ("__classdict__" : Str)) = false := by decide) :
    PE X (.Call (.Name x p) [.Lambda params body scope lpos] [] pos) (LamX.tLam T TT t) := by
  refine ⟨fun pins s σ H Q I h => ?_⟩
  obtain ⟨hT, h⟩ := h
  refine wpAny_Call_Name_kw (ld_glob I hg hm (callWith_K (h₀ := X.base) I.ok.mod.kin hk ?_ (by rfl) (by rfl)) hdb)
  show wpAny _ _ (spliced ((false, eval (.Lambda params body scope lpos) X.env) :: backTo pos (starEach [] X.env))) _ _ s
  refine Calls.spliced_cons (LamX.lam_make2 I TB hcode hmT hu hT hdef (L.has I.ok) fun f c2 pm2 ctv H1 s1 I1 eN T1 hf nf hfr hco => Calls.spliced_nil ⟨I1.kIn, ?_⟩)
  have rc : codeAny (model X.prog X.w) X.A (.call (.ref g) ⟨[.ref f], []⟩) (CR L2.CX0 X.stack X.prog X.w H1 s1 Q L2.E0) s1 := by
    refine LamX.run_ofS (N := Ng) (ps := [a]) (us := [.ref f]) (vs := [.ref f]) lk hcg Sg hr I1.env0 (hb s1 [.ref f] I1.kIn rfl) (.cons rfl .nil) rfl fun hr2 => ?_
    obtain ⟨t2, ht2, hq2⟩ := hG f c2 s1 H1 Q (fun E H' Q' => t E σ H' Q') hr2 (fun W pn xe p1 p2 tk => act (i := 0) I1 L hf nf hfr (hbind _ _ _ _ _) tk hr2 (fun A outer s H E hr3 => hbody A outer s H E f c2 hr3) hNg hva hd hcd) hco (h H1 eN T1)
    exact ⟨t2, ht2.nox, hq2⟩
  refine wpAny_call (codeAny_mono rc fun r s2 hq => ?_)
  cases r with
  | error e => exact (show False from hq).elim
  | ok fl =>
    cases fl with
    | ret u => exact I1.after hq
    | next => exact False.elim hq
    | brk => exact False.elim hq
    | cont => exact False.elim hq
/-- .. of a def of the text -/
theorem pe_lamF {X : Cx} {T : List (Addr × Str)} {TT : (XK → Hp → VK → Prop) → Hp → VK → Prop} {x a : Str} {g c P : Addr} {k : Nat} {st : Stmt} {fd : FuncData} {Ng : List Str} {params : Arguments} {body : Expr} {scope : Scope} {t : XK → TE} {p lpos pos : Pos}
    (hg : Gl X x) (hm : X.mg x = some (.ref g)) (F : L2.Fun X.K x x st g fd) (hb : L2.Binds X.K fd [a] []) (Sg : FnScope Ng [a] (defScope st)) (hNg : Ng[0]? = some a) (hva : Vis (defScope st) a)
    (hG : ∀ cdv : Value, Gives X Ng x (defScope st) g cdv (defBody st) a (X.env.qual ++ "<lambda>") (k + 1) TT)
    (TB : LamX.TabB X.base X.mg c P) (hcode : X.env.code = .ref c) (hmT : (P, X.env.qual ++ "<lambda>") ∈ T) (hu : ∀ p ∈ T, p.1 = P → p.2 = X.env.qual ++ "<lambda>") (hr : Room (k + 2) X.A) (L : LamX.LamS X.env.scope scope) (hdef : defaultsOf params X.env = ([], []))
    (hbind : ∀ (q : Str) (cl : List (Str × Addr)) (pm cv ctv : Value), bindArgs (kla_fn "<lambda>" q params body scope cl pm cv ctv) ⟨[], []⟩ = pure [])
    (hbody : ∀ (A : Around) (outer : List Env) (s : Shared) (H : Hp) (E : XK) (f c' : Addr), Room k (A.deeper (LamX.lamEnv X scope s.heap.objs.size f c')) → PE (lamC X A outer s H E scope f c') body (t E))
    (hdb : (x == ("__debug__" : Str)) = false := by decide) (hd : (a == ("__debug__" : Str)) = false := by decide) (hcd : (a == ("__classdict__" : Str)) = false := by decide) :
    PE X (.Call (.Name x p) [.Lambda params body scope lpos] [] pos) (LamX.tLam T TT t) := by
  obtain ⟨oc, od, kV, doc, pm, an, cdv, ct, osl, rfl, lk, hcd'⟩ := F.ex
  exact pe_lam hg hm F.kp lk hcd' hb Sg hNg hva (hG cdv) TB hcode hmT hu hr L hdef hbind hbody hdb hd hcd
/-- a def of the text whose code object is known -/
structure FunC (K : Frag) (x qual : Str) (st : Stmt) (f : Addr) (fd : FuncData) (c : Addr) : Prop where
  ex : ∃ (oc : Value) (od : Option Addr) (kV doc pm : Value) (an : Option Addr) (ct : Value) (osl : Array (Option Value)), fd = fnOf x qual (defArgs st) (defBody st) (defScope st) .none kV doc pm an (.ref c) ct ∧ K.lookup f = some ⟨oc, od, .func fd, osl⟩ ∧ codeIn K (.ref c) qual = true
theorem FunC.ok {P : Program} {w : World} {K : Frag} {mg : Str → Option Value} {base : Heap} {x qual : Str} {st : Stmt} {f c : Addr} {fd : FuncData} {N ps : List Str} {k : Nat} {sp : Sp} (F : FunC K x qual st f fd c) (S : FnScope N ps (defScope st)) (len : ∀ vs H Q E, sp vs H Q E → vs.length = ps.length)
    (hbody : ∀ (A : Around) (outer : List Env) (s : Shared) (H : Hp) (vs : List V) (Q : VK) (E : XK), Room k (A.deeper (envOfC qual (defScope st) s.heap.objs.size f (.ref c))) → sp vs H Q E →
      ∃ t, PSs (cxOf L2.CX0 P w K mg base N qual (defScope st) f (.ref c) A outer s H E).nox (defBody st) t ∧ t { nx := fun _ H' => Q .non H', rt := Q } (L2.start N vs) H) : FnOk P w K mg base L2.CX0 (k + 1) f fd ps sp := by
  obtain ⟨oc, od, kV, doc, pm, an, ct, osl, rfl, lk, hcd⟩ := F.ex
  refine fn_of lk hcd S len fun A outer s H vs Q E hr hsp => ?_
  obtain ⟨t, h, q⟩ := hbody A outer s H vs Q E hr hsp
  exact ⟨t, h.nox, q⟩
theorem okN {P : Program} {w : World} {K : Frag} {mg : Str → Option Value} {base : Heap} {x qual : Str} {st : Stmt} {f : Addr} {fd : FuncData} {N ps : List Str} {k : Nat} {sp : Sp} (F : L2.Fun K x qual st f fd) (S : FnScope N ps (defScope st)) (len : ∀ vs H Q E, sp vs H Q E → vs.length = ps.length)
    (hbody : ∀ (cdv : Value) (A : Around) (outer : List Env) (s : Shared) (H : Hp) (vs : List V) (Q : VK) (E : XK), Room k (A.deeper (envOfC qual (defScope st) s.heap.objs.size f cdv)) → sp vs H Q E →
      ∃ t, PSs (cxOf (L2N.CX P w) P w K mg base N qual (defScope st) f cdv A outer s H E) (defBody st) t ∧ t { nx := fun _ H' => Q .non H', rt := Q } (L2.start N vs) H) : FnOk P w K mg base (L2N.CX P w) (k + 1) f fd ps sp := by
  obtain ⟨oc, od, kV, doc, pm, an, cdv, ct, osl, rfl, lk, hcd⟩ := F.ex
  exact fn_of lk hcd S len fun A outer s H vs Q E hr hsp => hbody cdv A outer s H vs Q E hr hsp
/-- a def that may raise, where it does not -/
theorem fn0_of {P : Program} {w : World} {K : Frag} {mg : Str → Option Value} {base : Heap} {k : Nat} {f : Addr} {fd : FuncData} {ps : List Str} {sp spx : Sp} (F : FnOk P w K mg base (L2N.CX P w) k f fd ps spx) (h : ∀ vs H Q E, sp vs H Q E → spx vs H Q L2.E0) : FnOk P w K mg base L2.CX0 k f fd ps sp := by
  refine ⟨fun vs H Q E hs => F.len _ _ _ _ (h _ _ _ _ hs), fun A outer s H args us vs Q E hr e0 hb r hs => codeAny_mono (F.run A outer s H args us vs Q L2.E0 hr e0 hb r (h _ _ _ _ hs)) fun res s' hq => ?_⟩
  cases res with
  | error e =>
    obtain ⟨_, _, _, _, _, _, _, _, _, _, _, _, z⟩ := hq
    exact z.elim
  | ok fl => cases fl <;> exact hq
/-! defs called where an exception is handled, that raise nothing -/
structure FnS (P : Program) (w : World) (K : Frag) (mg : Str → Option Value) (base : Heap) (k : Nat) (f : Addr) (fd : FuncData) (ps : List Str) (sp : Sp) : Prop where
  len : ∀ vs H Q E, sp vs H Q E → vs.length = ps.length
  run : ∀ (A : Around) (outer : List Env) (s : Shared) (H : Hp) (args : Args) (us : List Value) (vs : List V) (Q : VK), L2H.RoomH k A → Env0 P w K mg base A outer s H → BindsTo s fd args (ps.zip us) → Vals vs us → sp vs H Q L2.E0 →
    codeAny (model P w) A (.call (.ref f) args) (CR L2.CX0 outer P w H s Q L2.E0) s
theorem pin_glob {P : Program} {w : World} {K : Frag} {mg : Str → Option Value} {base : Heap} {A : Around} {outer : List Env} {s : Shared} {H : Hp} (e0 : Env0 P w K mg base A outer s H) : ∃ p, L2H.PinOk outer H s p := by
  obtain ⟨o, es, ep, ho, hd, _⟩ := e0.mod.glob
  obtain ⟨h1, h2⟩ := e0.bs _ _ ho
  refine ⟨(mainGlobals, o), h1, h2, fun z => ?_, fun v z => ?_⟩
  · obtain ⟨q, _⟩ := e0.funs.mem z
    rw [ho] at q
    cases q
  · have z' : o.data = .cell v := z
    rw [hd] at z'
    cases z'
theorem fnS_of {P : Program} {w : World} {K : Frag} {mg : Str → Option Value} {base : Heap} {k : Nat} {f : Addr} {x qual : Str} {st : Stmt} {fd : FuncData} {N ps : List Str} {sp : Sp} (F : L2.Fun K x qual st f fd) (S : FnScope N ps (defScope st)) (len : ∀ vs H Q E, sp vs H Q E → vs.length = ps.length)
    (hbody : ∀ (cdv : Value) (A : Around) (outer : List Env) (s : Shared) (H : Hp) (vs : List V) (Q : VK) (p : Addr × Obj), L2H.RoomH k (A.deeper (envOfC qual (defScope st) s.heap.objs.size f cdv)) → sp vs H Q L2.E0 →
      ∃ t, PSs (L2H.cxH L2.CX0 P w K mg base N qual (defScope st) f cdv A outer s H L2.E0 p).nox (defBody st) t ∧ t { nx := fun _ H' => Q .non H', rt := Q } (L2.start N vs) H) :
    FnS P w K mg base (k + 1) f fd ps sp := by
  obtain ⟨oc, od, kV, doc, pm, an, cdv, ct, osl, rfl, lk, hcd⟩ := F.ex
  refine ⟨len, fun A outer s H args us vs Q hr e0 hb r hsp => ?_⟩
  have stay : ∀ b o, base.get? b = some o → s.heap.get? b = some o := fun b o e => (e0.bs b o e).1
  have KX : K.In s.heap := e0.mod.kin.keeps stay
  obtain ⟨p, hp⟩ := pin_glob e0
  refine codeAny_call_function hr.depth (KX _ _ lk) rfl S.co S.gen rfl (codeRec_of KX hcd) (hb _ _ _ _ ?_)
  refine wpAny_newFunctionEnv_cells S.kind (fun y hy => ?_) fun env he s1 x => ?_
  · rcases S.par y.1 (List.of_mem_zip (show (y.1, y.2) ∈ _ from hy)).1 with z | z
    · exact .inl z
    · exact .inr ⟨z, cellsFrom_some _ _ _ (.inl z)⟩
  subst he
  refine ⟨(e0.mod.nolimit.keeps stay).keeps x.toInCall.keep, codeAny_func ?_⟩
  obtain ⟨t, ht, hq⟩ := hbody cdv A outer s H vs Q p (hr.deeper _) hsp
  have I := L2H.inv_startH (CX := L2.CX0) (E := L2.E0) S hp e0 (len _ _ _ _ hsp) r x
  refine wpAny_mono (ht.nox.run [] s1 (L2.start N vs) H _ I hq) (fun fl s' hs => ?_) fun e s' hs => hs
  cases fl with
  | brk => obtain ⟨_, _, _, z⟩ := hs; exact False.elim z
  | cont => obtain ⟨_, _, _, z⟩ := hs; exact False.elim z
  | ret u => obtain ⟨v, σ', H', J, rv, q⟩ := hs; exact ⟨v, H', J.os, J.bare, J.base, J.hok, rv, q⟩
  | next => obtain ⟨σ', H', J, q⟩ := hs; exact ⟨.non, H', J.os, J.bare, J.base, J.hok, rfl, q⟩
theorem pe_callS {X : Cx} {k : Nat} {f : Addr} {fd : FuncData} {ps : List Str} {sp : Sp} {x : Str} {q pos : Pos} {e : Expr} {es : List Expr} {t : TA} (F : FnS X.prog X.w X.K X.mg X.base k f fd ps sp) (hr : L2H.RoomH k X.A) (hg : Gl X x) (hm : X.mg x = some (.ref f)) (hk : keepIn X.K (.ref f) = true)
    (hb : Binds X.K fd ps []) (ha : PA X (e :: es) t) (hdb : (x == ("__debug__" : Str)) = false := by decide) (he : starEach (e :: es) X.env = (false, eval e X.env) :: starEach es X.env := by rfl) (hpl : (backTo pos (starEach es X.env)).any (·.1) = false := by rfl) :
    PE X (.Call (.Name x q) (e :: es) [] pos) (fun σ H Q => t σ H fun vs H1 => sp vs H1 Q L2.E0) := by
  refine ⟨fun pins s σ H Q I h => wpAny_Call_Name_kw (ld_glob I hg hm ?_ hdb)⟩
  refine callWith_K (h₀ := X.base) I.ok.mod.kin hk (thn (ha.run pos pins s σ H _ I h) fun us s1 hu => ?_) he hpl
  obtain ⟨vs, H1, I1, r, q⟩ := hu
  have hl : us.length = ps.length := by rw [← r.length]; exact F.len _ _ _ _ q
  have b := hb s1 us I1.kIn (by rw [List.append_nil]; exact hl)
  rw [List.append_nil] at b
  refine ⟨I1.kIn, wpAny_call (codeAny_mono (F.run X.A X.stack s1 H1 ⟨us, []⟩ us vs Q hr I1.env0 b r q) fun res s2 hq => ?_)⟩
  cases res with
  | error e => exact False.elim hq
  | ok fl =>
    cases fl with
    | ret u => exact I1.after hq
    | next => exact False.elim hq
    | brk => exact False.elim hq
    | cont => exact False.elim hq
/-! what is handed on: g1 gets it and hands it to g2, which calls it -/
theorem un_more {fs : List Addr} {x : Addr} {H H1 H2 : Hp} {h h1 h2 : Heap} (a : Un fs [] H H1 h h1) (b : Un (x :: fs) [] H1 H2 h1 h2) (hx : ∀ o, h.get? x ≠ some o) : Un fs [] H H2 h h2 where
  keep := fun c ob q n hc hx' => b.keep c ob (a.keep c ob q n hc hx') (a.free c ob q n hx') (fun z => by
    rcases List.mem_cons.mp z with e | e
    · exact hx ob (e ▸ q)
    · exact hc e) hx'
  slot := fun c ob q n hc hx' => by
    obtain ⟨sl, e1⟩ := a.slot c ob q n hc hx'
    obtain ⟨sl', e2⟩ := b.slot c _ e1 (a.free c ob q n hx') (List.mem_cons_of_mem _ hc) hx'
    exact ⟨sl', e2⟩
  free := fun c ob q n hx' => by
    obtain ⟨o', e1⟩ := a.there c ob q hx'
    exact b.free c o' e1 (a.free c ob q n hx') hx'
  there := fun c ob q hx' => by
    obtain ⟨o', e1⟩ := a.there c ob q hx'
    exact b.there c o' e1 hx'
  tups := fun c xs q => b.tups c xs (a.tups c xs q)
  frzs := fun c o u q => b.frzs c o u (a.frzs c o u q)
  tbls := fun c ps q => by
    obtain ⟨m1, e1⟩ := a.tbls c ps q
    obtain ⟨m2, e2⟩ := b.tbls c _ e1
    exact ⟨m1 ++ m2, by rw [e2, Array.append_assoc]⟩
section
variable {X : Cx} {pins : List (Addr × Obj)} {σ : L2.St} {H : Hp} {s : Shared}
theorem actG {CXg : CXT} {Eg : XK} {Ng : List Str} {qg : Str} {sg : Scope} {g f c : Addr} {cdg pm ctv : Value} {params : Arguments} {body : Expr} {scope : Scope} {k i : Nat} {a : Str} {pn : List (Addr × Obj)} {xe : Value → Shared → Prop} {W : WX} {tb : XK → TE} {p1 p2 : Pos} {A0 : Around} {outer0 : List Env} {s2 : Shared} {H2 : Hp}
    (I : Inv X pins σ H s) (L : LamX.LamS X.env.scope scope) (hf : s.heap.get? f = some (kla_obj "<lambda>" (X.env.qual ++ "<lambda>") params body scope (cloFrom X.env.cells scope.names []) pm c ctv)) (nf : H f = none) (hfr : f ∉ frs X.stack)
    (hbind : bindArgs (kla_fn "<lambda>" (X.env.qual ++ "<lambda>") params body scope (cloFrom X.env.cells scope.names []) pm (.ref c) ctv) ⟨[], []⟩ = pure [])
    (hun : ∀ (H' : Hp) (h' : Heap), Un (frs outer0) [] H2 H' s2.heap h' → Un (frs X.stack) [] H H' s.heap h')
    (tk : L2N.Takes ((cxOf CXg X.prog X.w X.K X.mg X.base Ng qg sg g cdg A0 outer0 s2 H2 Eg).tr pn xe) W) (hr : Room (k + 1) (A0.deeper (envOfC qg sg s2.heap.objs.size g cdg)))
    (hbody : ∀ (A : Around) (outer : List Env) (s : Shared) (H : Hp) (E : XK), Room k (A.deeper (LamX.lamEnv X scope s.heap.objs.size f c)) → PE (lamC X A outer s H E scope f c) body (tb E))
    (hN : Ng[i]? = some a) (hv : Vis sg a) (hd : (a == ("__debug__" : Str)) = false) (hcd : (a == ("__classdict__" : Str)) = false) :
    PE ((cxOf CXg X.prog X.w X.K X.mg X.base Ng qg sg g cdg A0 outer0 s2 H2 Eg).tr pn xe) (.Call (.Name a p1) [] [] p2) (tAct W f c i (X.env.qual ++ "<lambda>") fun E HZ Q => tb E σ HZ Q) := by
  refine ⟨fun pinsZ sZ σZ HZ Q IZ h => ?_⟩
  obtain ⟨hs, hc, E, Q0, hE, hQ, ht⟩ := h
  refine wpAny_Call_Name_kw (thn ((pe_var (pos := p1) (i := i) hN hv hd hcd).run pinsZ sZ σZ HZ (fun v H1 => v = .ref f ∧ H1 = HZ) IZ ⟨.ref f, hs, rfl, rfl⟩) fun u s1 hu => ?_)
  obtain ⟨v, H1, I1, r1, ev, eH⟩ := hu
  subst ev eH
  have eu : u = Value.ref f := r1
  subst eu
  have un : Un (frs X.stack) [] H H1 s.heap s1.heap := hun _ _ I1.base
  have fo : s1.heap.get? f = _ := un.keep f _ hf nf hfr (fun z => nomatch (show f ∈ ([] : List Addr) from z))
  refine callWith_F0 ⟨_, _, _, _, fo⟩ ?_
  obtain ⟨⟨oc, vs, t, hoc, hdc, hvc⟩, _, _⟩ := I1.hok c _ hc
  have rc : codeAny (model X.prog X.w) (A0.deeper (envOfC qg sg s2.heap.objs.size g cdg)) (.call (.ref f) ⟨[], []⟩) (CR (L2N.CX X.prog X.w) (envOfC qg sg s2.heap.objs.size g cdg :: outer0) X.prog X.w H1 s1 Q E) s1 := by
    refine kla_callFunE hr.depth fo rfl L.co L.gen rfl ⟨c, oc, vs, t, rfl, hoc, hdc, hvc⟩ ?_
    rw [hbind]
    refine wpAny_pure (wpAny_newFunctionEnv (fun y hy => (L.own y hy).2) (fun y hy => absurd hy (by simp)) (fun h₁ hns hsb => ⟨I1.nolimit.fresh _ hsb, ?_⟩) L.kind)
    show codeAny _ _ (.expr body (LamX.lamEnv X scope s1.heap.objs.size f c)) _ _
    have kp : ∀ b o, s1.heap.get? b = some o → h₁.get? b = some o := fun b o e => hsb.extBut b o (Nat.ne_of_lt (Heap.lt_size e)) (Heap.get?_push_of_some _ e)
    have J0 := LamX.lam_start2 (A := A0.deeper (envOfC qg sg s2.heap.objs.size g cdg)) (outer := envOfC qg sg s2.heap.objs.size g cdg :: outer0) (E := E) (f := f) (c' := c) (tk := s1.toks + ([] : List (Str × Value)).length) I L I1.env0 hr.hd un hns kp
    have J : Inv (lamC X (A0.deeper (envOfC qg sg s2.heap.objs.size g cdg)) (envOfC qg sg s2.heap.objs.size g cdg :: outer0) s1 H1 E scope f c) [] σ H1 _ := J0.wish _
    refine kla_codeExpr (wpAny_mono ((hbody _ _ s1 H1 E (hr.deeper _)).run [] _ _ H1 Q0 J ht) (fun v s' hq => ?_) fun e s' hq => hq)
    obtain ⟨w', H', J', rv, q⟩ := hq
    exact ⟨w', H', J'.os, J'.bare, J'.base, J'.hok, rv, hQ _ _ q⟩
  refine wpAny_call (codeAny_mono rc fun r s' hq => ?_)
  cases r with
  | error e => exact tk e s' (L2N.XE.of_call I1 hE hq)
  | ok fl =>
    cases fl with
    | ret u => exact I1.after hq
    | next => exact False.elim hq
    | brk => exact False.elim hq
    | cont => exact False.elim hq
end
theorem actY {X Y : Cx} {pins : List (Addr × Obj)} {σ : L2.St} {H : Hp} {s : Shared} {CXg : CXT} {Eg : XK} {Ng : List Str} {qg : Str} {sg : Scope} {g f c : Addr} {cdg pm ctv : Value} {params : Arguments} {body : Expr} {scope : Scope} {k i : Nat} {a : Str} {pn : List (Addr × Obj)} {xe : Value → Shared → Prop} {W : WX} {tb : XK → TE} {p1 p2 : Pos} {s2 : Shared} {H2 : Hp}
    (hP : Y.prog = X.prog) (hw : Y.w = X.w) (hK : Y.K = X.K) (hmg : Y.mg = X.mg) (hba : Y.base = X.base)
    (I : Inv X pins σ H s) (L : LamX.LamS X.env.scope scope) (hf : s.heap.get? f = some (kla_obj "<lambda>" (X.env.qual ++ "<lambda>") params body scope (cloFrom X.env.cells scope.names []) pm c ctv)) (nf : H f = none) (hfr : f ∉ frs X.stack)
    (hbind : bindArgs (kla_fn "<lambda>" (X.env.qual ++ "<lambda>") params body scope (cloFrom X.env.cells scope.names []) pm (.ref c) ctv) ⟨[], []⟩ = pure [])
    (hun : ∀ (H' : Hp) (h' : Heap), Un (frs Y.stack) [] H2 H' s2.heap h' → Un (frs X.stack) [] H H' s.heap h')
    (tk : L2N.Takes ((gCx Y CXg Eg Ng qg sg g cdg s2 H2).tr pn xe) W) (hr : Room (k + 1) (Y.A.deeper (envOfC qg sg s2.heap.objs.size g cdg)))
    (hbody : ∀ (A : Around) (outer : List Env) (s : Shared) (H : Hp) (E : XK), Room k (A.deeper (LamX.lamEnv X scope s.heap.objs.size f c)) → PE (lamC X A outer s H E scope f c) body (tb E))
    (hN : Ng[i]? = some a) (hv : Vis sg a) (hd : (a == ("__debug__" : Str)) = false) (hcd : (a == ("__classdict__" : Str)) = false) :
    PE ((gCx Y CXg Eg Ng qg sg g cdg s2 H2).tr pn xe) (.Call (.Name a p1) [] [] p2) (tAct W f c i (X.env.qual ++ "<lambda>") fun E HZ Q => tb E σ HZ Q) := by
  unfold gCx at tk ⊢
  rw [hP, hw, hK, hmg, hba] at tk ⊢
  exact actG I L hf nf hfr hbind hun tk hr hbody hN hv hd hcd
/-- it is handed on: slot 0 holds it -/
def tPass (f c : Addr) (q : Str) (TT : (XK → Hp → VK → Prop) → Hp → VK → Prop) (tl : XK → Hp → VK → Prop) : TE := fun σ H Q => σ[0]? = some (some (.ref f)) ∧ H c = some (LamX.CodeO c q) ∧ TT tl H Q
/-- the def that hands it on: what it makes of what the other makes of it -/
def Hands (X : Cx) (Ng : List Str) (x : Str) (sg : Scope) (g : Addr) (cdg : Value) (bg : List Stmt) (a x2 q : Str) (TT2 TT : (XK → Hp → VK → Prop) → Hp → VK → Prop) : Prop :=
  ∀ (f c : Addr) (s : Shared) (H : Hp) (Q : VK) (tl : XK → Hp → VK → Prop),
    (∀ (p1 p2 p3 : Pos), PE (gCx X L2.CX0 L2.E0 Ng x sg g cdg s H).nox (.Call (.Name x2 p1) [.Name a p2] [] p3) (tPass f c q TT2 tl)) →
    H c = some (LamX.CodeO c q) → TT tl H Q →
    ∃ t, PSs (gCx X L2.CX0 L2.E0 Ng x sg g cdg s H).nox bg t ∧ t { nx := fun _ H' => Q .non H', rt := Q } (L2.start Ng [.ref f]) H
theorem pe_lam2 {X : Cx} {T : List (Addr × Str)} {TT TT2 : (XK → Hp → VK → Prop) → Hp → VK → Prop} {x a x2 a2 : Str} {g c P g2 : Addr} {k : Nat} {st st2 : Stmt} {fd fd2 : FuncData} {Ng Ng2 : List Str} {params : Arguments} {body : Expr} {scope : Scope} {t : XK → TE} {p lpos pos : Pos}
    (hg : Gl X x) (hm : X.mg x = some (.ref g)) (F : L2.Fun X.K x x st g fd) (hb : L2.Binds X.K fd [a] []) (Sg : FnScope Ng [a] (defScope st)) (hNg : Ng[0]? = some a) (hva : Vis (defScope st) a)
    (hg2 : (defScope st).names.lookup x2 = some .globalImplicit) (hm2 : X.mg x2 = some (.ref g2)) (F2 : L2.Fun X.K x2 x2 st2 g2 fd2) (hb2 : L2.Binds X.K fd2 [a2] []) (Sg2 : FnScope Ng2 [a2] (defScope st2)) (hNg2 : Ng2[0]? = some a2) (hva2 : Vis (defScope st2) a2)
    (hG2 : ∀ (Y : Cx) (cdv : Value), Y.K = X.K → Y.mg = X.mg → Gives Y Ng2 x2 (defScope st2) g2 cdv (defBody st2) a2 (X.env.qual ++ "<lambda>") (k + 1) TT2)
    (hG : ∀ cdv : Value, Hands X Ng x (defScope st) g cdv (defBody st) a x2 (X.env.qual ++ "<lambda>") TT2 TT)
    (TB : LamX.TabB X.base X.mg c P) (hcode : X.env.code = .ref c) (hmT : (P, X.env.qual ++ "<lambda>") ∈ T) (hu : ∀ p ∈ T, p.1 = P → p.2 = X.env.qual ++ "<lambda>") (hr : Room (k + 3) X.A) (L : LamX.LamS X.env.scope scope) (hdef : defaultsOf params X.env = ([], []))
    (hbind : ∀ (q : Str) (cl : List (Str × Addr)) (pm cv ctv : Value), bindArgs (kla_fn "<lambda>" q params body scope cl pm cv ctv) ⟨[], []⟩ = pure [])
    (hbody : ∀ (A : Around) (outer : List Env) (s : Shared) (H : Hp) (E : XK) (f c' : Addr), Room k (A.deeper (LamX.lamEnv X scope s.heap.objs.size f c')) → PE (lamC X A outer s H E scope f c') body (t E))
    (hdb : (x == ("__debug__" : Str)) = false := by decide) (hd : (a == ("__debug__" : Str)) = false := by decide) (hcd : (a == ("__classdict__" : Str)) = false := by decide)
    (hdb2 : (x2 == ("__debug__" : Str)) = false := by decide) (hd2 : (a2 == ("__debug__" : Str)) = false := by decide) (hcd2 : (a2 == ("__classdict__" : Str)) = false := by decide) :
    PE X (.Call (.Name x p) [.Lambda params body scope lpos] [] pos) (LamX.tLam T TT t) := by
  obtain ⟨oc, od, kV, doc, pm, an, cdv, ct, osl, rfl, lk, hcdv⟩ := F.ex
  obtain ⟨oc2, od2, kV2, doc2, pm2, an2, cdv2, ct2, osl2, rfl, lk2, hcdv2⟩ := F2.ex
  refine ⟨fun pins s σ H Q I h => ?_⟩
  obtain ⟨hT, h⟩ := h
  refine wpAny_Call_Name_kw (ld_glob I hg hm (callWith_K (h₀ := X.base) I.ok.mod.kin F.kp ?_ (by rfl) (by rfl)) hdb)
  show wpAny _ _ (spliced ((false, eval (.Lambda params body scope lpos) X.env) :: backTo pos (starEach [] X.env))) _ _ s
  refine Calls.spliced_cons (LamX.lam_make2 I TB hcode hmT hu hT hdef (L.has I.ok) fun f c2 pm2 ctv H1 s1 I1 eN T1 hf nf hfr hco => Calls.spliced_nil ⟨I1.kIn, ?_⟩)
  have rc : codeAny (model X.prog X.w) X.A (.call (.ref g) ⟨[.ref f], []⟩) (CR L2.CX0 X.stack X.prog X.w H1 s1 Q L2.E0) s1 := by
    refine LamX.run_ofS (N := Ng) (ps := [a]) (us := [.ref f]) (vs := [.ref f]) lk hcdv Sg hr I1.env0 (hb s1 [.ref f] I1.kIn rfl) (.cons rfl .nil) rfl fun hr2 => ?_
    have hp : ∀ (p1 p2 p3 : Pos), PE (gCx X L2.CX0 L2.E0 Ng x (defScope st) g cdv s1 H1).nox (.Call (.Name x2 p1) [.Name a p2] [] p3) (tPass f c2 (X.env.qual ++ "<lambda>") TT2 (fun E H' Q' => t E σ H' Q')) := by
      intro p1 p2 p3
      refine ⟨fun pinsY sY σY HY QY IY hy => ?_⟩
      obtain ⟨hs, hc, hTT⟩ := hy
      refine wpAny_Call_Name_kw (ld_glob IY (show Gl _ x2 from hg2) hm2 (callWith_K (h₀ := X.base) IY.ok.mod.kin F2.kp ?_ (by rfl) (by rfl)) hdb2)
      refine Calls.spliced_cons (thn ((pe_var (pos := p2) (i := 0) hNg hva hd hcd).run pinsY sY σY HY (fun v H1 => v = .ref f ∧ H1 = HY) IY ⟨.ref f, hs, rfl, rfl⟩) fun u s3 hu => Calls.spliced_nil ?_)
      obtain ⟨v, H3, I3, r3, ev, eH⟩ := hu
      subst ev eH
      have eu : u = Value.ref f := r3
      subst eu
      refine ⟨I3.kIn, ?_⟩
      have rc2 : codeAny (model X.prog X.w) (X.A.deeper (envOfC x (defScope st) s1.heap.objs.size g cdv)) (.call (.ref g2) ⟨[.ref f], []⟩) (CR L2.CX0 (envOfC x (defScope st) s1.heap.objs.size g cdv :: X.stack) X.prog X.w H3 s3 QY L2.E0) s3 := by
        refine LamX.run_ofS (N := Ng2) (ps := [a2]) (us := [.ref f]) (vs := [.ref f]) lk2 hcdv2 Sg2 hr2 I3.env0 (hb2 s3 [.ref f] I3.kIn rfl) (.cons rfl .nil) rfl fun hr3 => ?_
        have un3 : Un (frs X.stack) [] H1 H3 s1.heap s3.heap := I3.base
        have hun : ∀ (H' : Hp) (h' : Heap), Un (frs (gCx X L2.CX0 L2.E0 Ng x (defScope st) g cdv s1 H1).stack) [] H3 H' s3.heap h' → Un (frs X.stack) [] H1 H' s1.heap h' := fun H' h' u =>
          un_more (x := s1.heap.objs.size) (fs := frs X.stack) un3 (show Un (s1.heap.objs.size :: frs X.stack) [] H3 H' s3.heap h' from u) (fun o z => absurd (Heap.lt_size z) (Nat.lt_irrefl _))
        have hr3' : Room (k + 1) ((gCx X L2.CX0 L2.E0 Ng x (defScope st) g cdv s1 H1).A.deeper (envOfC x2 (defScope st2) s3.heap.objs.size g2 cdv2)) := hr3
        obtain ⟨t2, ht2, hq2⟩ := hG2 (gCx X L2.CX0 L2.E0 Ng x (defScope st) g cdv s1 H1) cdv2 rfl rfl f c2 s3 H3 QY (fun E H' Q' => t E σ H' Q') hr3' (fun W pn xe p1 p2 tk => actY (X := X) (Y := gCx X L2.CX0 L2.E0 Ng x (defScope st) g cdv s1 H1) (tb := t) (i := 0) (k := k) rfl rfl rfl rfl rfl I1 L hf nf hfr (hbind _ _ _ _ _) hun tk hr3' (fun A outer s H E hr4 => hbody A outer s H E f c2 hr4) hNg2 hva2 hd2 hcd2) hc hTT
        exact ⟨t2, ht2.nox, hq2⟩
      refine wpAny_call (codeAny_mono rc2 fun r s4 hq => ?_)
      cases r with
      | error e => exact (show False from hq).elim
      | ok fl =>
        cases fl with
        | ret u => exact I3.after hq
        | next => exact False.elim hq
        | brk => exact False.elim hq
        | cont => exact False.elim hq
    obtain ⟨t2, ht2, hq2⟩ := hG cdv f c2 s1 H1 Q (fun E H' Q' => t E σ H' Q') hp hco (h H1 eN T1)
    exact ⟨t2, ht2.nox, hq2⟩
  refine wpAny_call (codeAny_mono rc fun r s2 hq => ?_)
  cases r with
  | error e => exact (show False from hq).elim
  | ok fl =>
    cases fl with
    | ret u => exact I1.after hq
    | next => exact False.elim hq
    | brk => exact False.elim hq
    | cont => exact False.elim hq
/-! a lambda with one parameter that has a default, called without -/
structure LamD (N : List Str) (x : Str) (sc scope : Scope) : Prop where
  kind : scope.kind = .function
  co : scope.isCoroutine = false
  gen : scope.isGenerator = false
  own : ∀ y ∈ scope.names, y.2 ≠ .cell ∧ (y.2 = .local → y.1 ∉ N)
  free : ∀ y ∈ scope.names, y.2 = .free → sc.names.lookup y.1 = some .cell ∨ sc.names.lookup y.1 = some .free
  par : scope.names.lookup x = some .local
def lamDB (N : List Str) (x : Str) (sc scope : Scope) : Bool :=
  decide (scope.kind = .function) && !scope.isCoroutine && !scope.isGenerator && (scope.names.all fun y => !decide (y.2 = .cell) && (!decide (y.2 = .local) || !decide (y.1 ∈ N)) && (!decide (y.2 = .free) || decide (sc.names.lookup y.1 = some .cell) || decide (sc.names.lookup y.1 = some .free))) && decide (scope.names.lookup x = some .local)
theorem lamD_by {N : List Str} {x : Str} {sc scope : Scope} (h : lamDB N x sc scope = true) : LamD N x sc scope := by
  unfold lamDB at h
  simp only [Bool.and_eq_true, Bool.or_eq_true, Bool.not_eq_true', decide_eq_true_eq, decide_eq_false_iff_not, List.all_eq_true] at h
  obtain ⟨⟨⟨⟨h1, h2⟩, h3⟩, h4⟩, h5⟩ := h
  refine ⟨h1, h2, h3, fun y hy => ⟨(h4 y hy).1.1, fun e => ?_⟩, fun y hy e => ?_, h5⟩
  · rcases (h4 y hy).1.2 with z | z
    · exact absurd e z
    · exact z
  · rcases (h4 y hy).2 with (z | z) | z
    · exact absurd e z
    · exact .inl z
    · exact .inr z
theorem LamD.has {X : Cx} {x : Str} {scope : Scope} (L : LamD X.N x X.env.scope scope) (ok : X.Ok) : ∀ y ∈ scope.names, y.2 = .free → ∃ c, X.env.cells.lookup y.1 = some c := fun y hy e => by
  rcases L.free y hy e with k | k
  · exact ok.has _ (.inl k)
  · exact ok.has _ (.inr k)
section
variable {X : Cx} {pins : List (Addr × Obj)} {σ : L2.St} {H : Hp} {s : Shared}
/-- the lambda is made: the tuple of its default, then as without one -/
theorem lam_makeD {T : List (Addr × Str)} {c P : Addr} {n : Int} {e0 : Expr} {params : Arguments} {body : Expr} {scope : Scope} {pos : Pos} {E : Value → Shared → Prop} {Q : Value → Shared → Prop} (I : Inv X pins σ H s) (TB : LamX.TabB X.base X.mg c P) (hcode : X.env.code = .ref c)
    (hm : (P, X.env.qual ++ "<lambda>") ∈ T) (hu : ∀ p ∈ T, p.1 = P → p.2 = X.env.qual ++ "<lambda>") (hT : LamX.Tabs T H) (hd : params.defaults = [e0]) (hk0 : params.kw_defaults = []) (he : ∀ (pins : List (Addr × Obj)) (s : Shared) (Q : Value → Shared → Prop), Inv X pins σ H s → (∀ v s', Inv X pins σ H s' → L2.RelV (.int n) v → Q v s') → wpAny (model X.prog X.w) X.A (eval e0 X.env) Q E s) (hfree : ∀ y ∈ scope.names, y.2 = .free → ∃ c, X.env.cells.lookup y.1 = some c)
    (h : ∀ (f c' p : Addr) (doc pm ctv : Value) (H1 : Hp) (s' : Shared), Inv X pins σ H1 s' → LamX.ExtN H H1 → LamX.Tabs T H1 → H1 p = some (.tup [.int n]) →
      s'.heap.get? f = some (PySem.W.kdv_obj "<lambda>" (X.env.qual ++ "<lambda>") params (.expr body) scope (cloFrom X.env.cells scope.names []) (.ref p) doc pm c' ctv) → H1 f = none → f ∉ frs X.stack → H1 c' = some (LamX.CodeO c' (X.env.qual ++ "<lambda>")) → Q (.ref f) s') :
    wpAny (model X.prog X.w) X.A (eval (.Lambda params body scope pos) X.env) Q E s := by
  refine PySem.W.kdv_lam (by rw [hd]; rfl) hk0 ?_
  rw [hd]
  refine PySem.W.kdv_all1 (he pins s _ I fun v s0 I0 rv => PySem.W.kdv_all0 ?_)
  rw [makeFunction_eq]
  simp only [List.zip_nil_right, List.filterMap_nil, List.isEmpty_nil, if_true, pure_bind, List.isEmpty_cons, Bool.false_eq_true, if_false]
  refine wpAny_bind (wpAny_newTextTuple ?_)
  have np : H s0.heap.objs.size = none := I0.hok.fresh (Nat.le_refl _)
  have I1 : Inv X pins σ (upd H s0.heap.objs.size (.tup [.int n])) { s0 with heap := s0.heap.push (PySem.W.kdv_tup [v]) } :=
    I0.laid (t' := s0.toks) (fun b u e => Heap.get?_push_of_some _ e) (Nat.le_refl _) ⟨by show 1 ≤ sizeLine; decide, [v], .cons rv .nil, ⟨_, Heap.get?_push_size _ rfl, rfl, _, rfl⟩⟩
  have eN : LamX.ExtN H (upd H s0.heap.objs.size (.tup [.int n])) := fun b o e _ => by rw [upd_ne (ne_of_none e np)]; exact e
  have hp1 : (upd H s0.heap.objs.size (.tup [.int n])) s0.heap.objs.size = some (.tup [.int n]) := upd_same
  have hT1 : LamX.Tabs T (upd H s0.heap.objs.size (.tup [.int n])) := hT.ext fun b o e => by rw [upd_ne (ne_of_none e np)]; exact e
  generalize s0.heap.objs.size = p at *
  generalize upd H p (.tup [.int n]) = H1 at *
  generalize ({ s0 with heap := s0.heap.push (PySem.W.kdv_tup [v]) } : Shared) = s1 at *
  obtain ⟨ps, hP, ht, ha⟩ := hT1 _ hm
  have bP : s1.heap.BuiltinsAt X.mg P := TB.bm.keeps I1.bk
  have hP' : s1.heap.get? P = some { cls := .none, data := .fields ps } := I1.hok P _ hP
  have nofr : ∀ f, s1.heap.objs.size ≤ f → f ∉ frs X.stack := fun f hf z => by
    rcases List.mem_cons.mp (I1.stkSub _ z) with e | e
    · have h1 := I1.lt
      rw [← e] at h1
      exact Nat.lt_irrefl _ (Nat.lt_of_lt_of_le h1 hf)
    · exact I1.nofs hf e
  cases hc : codeAmong pos ps.toList with
  | none =>
    refine PySem.W.kdv_makeTail (mg := X.mg) (c := c) (P := P) (ps := ps) (closure_ok hfree) I1.ok.glob (I1.mod.glob.keeps I1.bk) hcode (TB.code.keeps I1.bk) hP' ht hc TB.gP bP fun c' ctv doc h' tk hx hge hlt hrec htb => ?_
    obtain ⟨c2, oc, vs, t, e2, hoc, hd, hv⟩ := hrec
    cases e2
    have hsz : s1.heap.objs.size ≤ h'.objs.size := Nat.le_trans hge (Nat.le_of_lt hlt)
    have nC : H1 c' = none := I1.hok.fresh hge
    have I2 := LamX.inv_table (t' := tk) (more := #[rawInt pos.line, rawInt pos.col, .ref c']) (h' := h'.push (PySem.W.kdv_obj "<lambda>" (X.env.qual ++ "<lambda>") params (.expr body) scope (cloFrom X.env.cells scope.names []) (.ref p) doc ((X.mg "__name__").getD .none) c' ctv)) I1 hP
      (fun b o hb e => Heap.get?_push_of_some _ (hx b o hb e)) (Heap.get?_push_of_some _ htb) hge ⟨oc, vs, t, Heap.get?_push_of_some _ hoc, hd, hv⟩
    have hE : LamX.ExtN H1 (upd (upd H1 P (.tbl (ps ++ #[rawInt pos.line, rawInt pos.col, .ref c']))) c' (LamX.CodeO c' (X.env.qual ++ "<lambda>"))) := fun b o e n => by
      rw [upd_ne (ne_of_none e nC), upd_ne (fun z => n ps (Option.some.inj (e.symm.trans (by rw [z]; exact hP))))]
      exact e
    have eL : (ps ++ #[rawInt pos.line, rawInt pos.col, .ref c']).toList = ps.toList ++ [rawInt pos.line, rawInt pos.col, .ref c'] := by simp
    refine h h'.objs.size c' p doc ((X.mg "__name__").getD .none) ctv _ _ I2 (eN.trans hE) (fun q hq => ?_) (hE _ _ hp1 fun ps z => by cases z) (Heap.get?_push_size _ rfl) ?_ (nofr _ hsz) upd_same
    · by_cases hb : q.1 = P
      · rw [hu q hq hb, hb]
        refine ⟨_, by rw [upd_ne (ne_of_none hP nC), upd_same], by rw [eL]; exact PySem.TriplesOk_snoc _ _ _ _ ht, fun p' cv hcv => ?_⟩
        rw [eL] at hcv
        rcases LamX.among_app _ ht hcv with z | z
        · obtain ⟨c0, e1, e2⟩ := ha p' cv z
          exact ⟨c0, e1, hE _ _ e2 LamX.codeO_ne⟩
        · exact ⟨c', z, upd_same⟩
      · obtain ⟨ps', a1, a2, a3⟩ := hT1 q hq
        refine ⟨ps', by rw [upd_ne (ne_of_none a1 nC), upd_ne hb]; exact a1, a2, fun p' cv hcv => ?_⟩
        obtain ⟨c0, e1, e2⟩ := a3 p' cv hcv
        exact ⟨c0, e1, hE _ _ e2 LamX.codeO_ne⟩
    · have n1 : h'.objs.size ≠ c' := Nat.ne_of_gt hlt
      have n2 : h'.objs.size ≠ P := Nat.ne_of_gt (Nat.lt_of_lt_of_le (Heap.lt_size hP') hsz)
      rw [upd_ne n1, upd_ne n2]
      exact I1.hok.fresh hsz
  | some cv =>
    obtain ⟨c', e, hco⟩ := ha pos cv hc
    subst e
    refine PySem.W.kdv_makeTailHit (mg := X.mg) (c := c) (P := P) (ps := ps) (closure_ok hfree) I1.ok.glob (I1.mod.glob.keeps I1.bk) hcode (TB.code.keeps I1.bk) hP' ht hc bP fun ctv doc h' tk hx hsz => ?_
    have I2 : Inv X pins σ H1 { s1 with heap := h'.push (PySem.W.kdv_obj "<lambda>" (X.env.qual ++ "<lambda>") params (.expr body) scope (cloFrom X.env.cells scope.names []) (.ref p) doc ((X.mg "__name__").getD .none) c' ctv), toks := tk } := I1.kept fun b o e => Heap.get?_push_of_some _ (hx b o e)
    exact h h'.objs.size c' p doc ((X.mg "__name__").getD .none) ctv H1 _ I2 eN hT1 hp1 (Heap.get?_push_size _ rfl) (I1.hok.fresh hsz) (nofr _ hsz) hco
end
section
variable {X : Cx} {pins : List (Addr × Obj)} {σ : L2.St} {H HZ : Hp} {s s1 : Shared}
theorem lam_startD {A : Around} {outer : List Env} {E : XK} {x : Str} {u : Value} {scope : Scope} {f c' : Addr} {h₁ : Heap} {tk : Nat} (I : Inv X pins σ H s) (L : LamD X.N x X.env.scope scope) (e0 : Env0 X.prog X.w X.K X.mg X.base A outer s1 HZ) (hd : A.handled = none)
    (un : Un (frs X.stack) [] H HZ s.heap s1.heap) (hns : h₁.Ns s1.heap.objs.size fun y => ([(x, u)] : List (Str × Value)).reverse.lookup y) (kp : ∀ b o, s1.heap.get? b = some o → h₁.get? b = some o) :
    Inv (LamX.lamCx X A outer s1 HZ E scope f c') [] σ HZ { s1 with heap := h₁, toks := tk } := by
  have hfree := L.has I.ok
  have cm : ∀ {y c}, (cloFrom X.env.cells scope.names []).lookup y = some c → X.env.cells.lookup y = some c := fun {y c} e => by
    rcases cloFrom_mem (PySem.mem_of_lookup e) with hm | ⟨h1, h2⟩
    · cases hm
    · obtain ⟨c1, hc⟩ := hfree _ h1 rfl
      have hc : X.env.cells.lookup y = some c1 := hc
      have e2 : c = c1 := by
        rw [h2, hc] <;> rfl
      rw [e2]
      exact hc
  have look : ∀ {y}, scope.names.lookup y = some .free → ∃ c, (cloFrom X.env.cells scope.names []).lookup y = some c := fun {y} hl => by
    have hy : (y, NameKind.free) ∈ scope.names := PySem.mem_of_lookup hl
    exact mem_lookup (cloFrom_has (cells := X.env.cells) (acc := []) hy)
  have cellK : ∀ {c : Addr} {v : Option Value}, H c = none → s.heap.IsCell c v → h₁.IsCell c v := fun {c v} n ⟨o, ho, hd⟩ => by
    obtain ⟨sl, q⟩ := un.any ho n (by simp)
    exact ⟨_, kp _ _ q, hd⟩
  have noA : ∀ b : Addr, b ∉ (LamX.lamCx X A outer s1 HZ E scope f c').ex := fun b z => absurd (show b ∈ ([] : List Addr) from z) (by simp)
  refine ⟨⟨e0.mod, L.kind, rfl, rfl, Nat.le_refl _, fun y z c e1 e2 => I.ok.inj y z c (cm e1) (cm e2), fun y hy => ?_, fun y c z _ => ?_, fun _ => hd, Around.frames_deeper e0.frames, .inr ⟨rfl, rfl⟩, fun b z => absurd z (noA b), e0.bs, e0.bsz, fun b _ _ => noA b,
      fun b z => absurd z (noA b), e0.funs, e0.frf⟩,
    rfl, e0.bare, Un.kept kp, ⟨_, hns, fun i y v e1 e2 e3 => ?_⟩, fun y c e => ?_, e0.hok.fresh (Nat.le_refl _), fun y c e => ?_, fun q hq => absurd (show q ∈ ([] : List (Addr × Obj)) ++ [] from hq) (by simp), e0.hok.kept kp, I.len⟩
  · have hy : scope.names.lookup y = some .cell ∨ scope.names.lookup y = some .free := hy
    rcases hy with hy | hy
    · exact absurd rfl (L.own _ (PySem.mem_of_lookup hy)).1
    · exact look hy
  · have z : false = true := z
    cases z
  · have e3 : Vis scope y := e3
    have e1 : X.N[i]? = some y := e1
    rcases e3 with k | k | k
    · exact absurd (List.mem_of_getElem? e1) ((L.own _ (PySem.mem_of_lookup k)).2 rfl)
    · exact absurd rfl (L.own _ (PySem.mem_of_lookup k)).1
    · obtain ⟨m, hn, hl⟩ := I.loc
      have hvis : Vis X.env.scope y := (L.free _ (PySem.mem_of_lookup k) rfl).elim (fun k => .inr (.inl k)) (fun k => .inr (.inr k))
      obtain ⟨w', r, q⟩ := hl i y v e1 e2 hvis
      obtain ⟨c2, h2⟩ := look k
      refine ⟨w', r, .inr ⟨.inr k, c2, h2, ?_⟩⟩
      have c1 := cm h2
      rcases q with ⟨k', _⟩ | ⟨_, c3, e', z⟩
      · have k' : X.env.scope.names.lookup y = some .local := k'
        rcases L.free _ (PySem.mem_of_lookup k) rfl with k2 | k2 <;> rw [show X.env.scope.names.lookup y = _ from k2] at k' <;> cases k'
      · rw [c1] at e'
        cases e'
        exact cellK (I.freeC y _ c1) z
  · obtain ⟨w', z⟩ := I.cell y c (cm e)
    exact ⟨w', cellK (I.freeC y c (cm e)) z⟩
  · obtain ⟨v, o, ho, hd⟩ := I.cell y c (cm e)
    exact un.free c o ho (I.freeC y c (cm e)) (by simp)
/-- its one parameter takes the default -/
def DBind (params : Arguments) (body : Expr) (scope : Scope) (x : Str) : Prop := ∀ (q : Str) (cl : List (Str × Addr)) (p : Addr) (doc pm cv ctv : Value), ∃ k : Option (Array Value) → Sem (List (Str × Value)),
  bindArgs (PySem.W.kdv_fn "<lambda>" q params (.expr body) scope cl (.ref p) doc pm cv ctv) ⟨[], []⟩ = seqItems? (.ref p) >>= k ∧ ∀ u : Value, k (some #[u]) = pure [(x, u)]
theorem actDG {CXg : CXT} {Eg : XK} {Ng : List Str} {qg : Str} {sg : Scope} {g f c p : Addr} {n : Int} {x : Str} {cdg doc pm ctv : Value} {params : Arguments} {body : Expr} {scope : Scope} {k i : Nat} {a : Str} {pn : List (Addr × Obj)} {xe : Value → Shared → Prop} {W : WX} {tb : XK → TE} {p1 p2 : Pos} {A0 : Around} {outer0 : List Env} {s2 : Shared} {H2 : Hp}
    (I : Inv X pins σ H s) (L : LamD X.N x X.env.scope scope) (hp : H p = some (.tup [.int n])) (hf : s.heap.get? f = some (PySem.W.kdv_obj "<lambda>" (X.env.qual ++ "<lambda>") params (.expr body) scope (cloFrom X.env.cells scope.names []) (.ref p) doc pm c ctv)) (nf : H f = none) (hfr : f ∉ frs X.stack)
    (hbind : DBind params body scope x)
    (hun : ∀ (H' : Hp) (h' : Heap), Un (frs outer0) [] H2 H' s2.heap h' → Un (frs X.stack) [] H H' s.heap h')
    (tk : L2N.Takes ((cxOf CXg X.prog X.w X.K X.mg X.base Ng qg sg g cdg A0 outer0 s2 H2 Eg).tr pn xe) W) (hr : Room (k + 1) (A0.deeper (envOfC qg sg s2.heap.objs.size g cdg)))
    (hbody : ∀ (A : Around) (outer : List Env) (s : Shared) (H : Hp) (E : XK), Room k (A.deeper (LamX.lamEnv X scope s.heap.objs.size f c)) → PE (lamC X A outer s H E scope f c) body (tb E))
    (hN : Ng[i]? = some a) (hv : Vis sg a) (hd : (a == ("__debug__" : Str)) = false) (hcd : (a == ("__classdict__" : Str)) = false) :
    PE ((cxOf CXg X.prog X.w X.K X.mg X.base Ng qg sg g cdg A0 outer0 s2 H2 Eg).tr pn xe) (.Call (.Name a p1) [] [] p2) (tAct W f c i (X.env.qual ++ "<lambda>") fun E HZ Q => tb E σ HZ Q) := by
  refine ⟨fun pinsZ sZ σZ HZ Q IZ h => ?_⟩
  obtain ⟨hs, hc, E, Q0, hE, hQ, ht⟩ := h
  refine wpAny_Call_Name_kw (thn ((pe_var (pos := p1) (i := i) hN hv hd hcd).run pinsZ sZ σZ HZ (fun v H1 => v = .ref f ∧ H1 = HZ) IZ ⟨.ref f, hs, rfl, rfl⟩) fun u s1 hu => ?_)
  obtain ⟨v, H1, I1, r1, ev, eH⟩ := hu
  subst ev eH
  have eu : u = Value.ref f := r1
  subst eu
  have un : Un (frs X.stack) [] H H1 s.heap s1.heap := hun _ _ I1.base
  have fo : s1.heap.get? f = _ := un.keep f _ hf nf hfr (fun z => nomatch (show f ∈ ([] : List Addr) from z))
  have hp1 : H1 p = some (.tup [.int n]) := un.tups p _ hp
  obtain ⟨_, us, rus, op, hop, _, nn, hop2⟩ := I1.hok p _ hp1
  obtain ⟨k0, hb1, hb2⟩ := hbind (X.env.qual ++ "<lambda>") (cloFrom X.env.cells scope.names []) p doc pm (.ref c) ctv
  cases rus with
  | cons ru rn =>
  cases rn with
  | nil =>
  rename_i u0
  refine callWith_F0 ⟨_, _, _, _, fo⟩ ?_
  obtain ⟨⟨oc, vs, t, hoc, hdc, hvc⟩, _, _⟩ := I1.hok c _ hc
  have rc : codeAny (model X.prog X.w) (A0.deeper (envOfC qg sg s2.heap.objs.size g cdg)) (.call (.ref f) ⟨[], []⟩) (CR (L2N.CX X.prog X.w) (envOfC qg sg s2.heap.objs.size g cdg :: outer0) X.prog X.w H1 s1 Q E) s1 := by
    refine kla_callFunE hr.depth fo rfl L.co L.gen rfl ⟨c, oc, vs, t, rfl, hoc, hdc, hvc⟩ ?_
    refine (BindsTo.of_defaults (binds := [(x, u0)]) (k := k0) rfl hop hop2 hb1 (hb2 u0)) _ _ _ _ ?_
    refine wpAny_newFunctionEnv (fun y hy => (L.own y hy).1) (fun y hy => by rw [List.mem_singleton.mp hy]; exact L.par) (fun h₁ hns hsb => ⟨I1.nolimit.fresh _ hsb, ?_⟩) L.kind
    show codeAny _ _ (.expr body (LamX.lamEnv X scope s1.heap.objs.size f c)) _ _
    have kp : ∀ b o, s1.heap.get? b = some o → h₁.get? b = some o := fun b o e => hsb.extBut b o (Nat.ne_of_lt (Heap.lt_size e)) (Heap.get?_push_of_some _ e)
    have J0 := lam_startD (A := A0.deeper (envOfC qg sg s2.heap.objs.size g cdg)) (outer := envOfC qg sg s2.heap.objs.size g cdg :: outer0) (E := E) (f := f) (c' := c) (tk := s1.toks + ([(x, u0)] : List (Str × Value)).length) I L I1.env0 hr.hd un hns kp
    have J : Inv (lamC X (A0.deeper (envOfC qg sg s2.heap.objs.size g cdg)) (envOfC qg sg s2.heap.objs.size g cdg :: outer0) s1 H1 E scope f c) [] σ H1 _ := J0.wish _
    refine kla_codeExpr (wpAny_mono ((hbody _ _ s1 H1 E (hr.deeper _)).run [] _ _ H1 Q0 J ht) (fun v s' hq => ?_) fun e s' hq => hq)
    obtain ⟨w', H', J', rv, q⟩ := hq
    exact ⟨w', H', J'.os, J'.bare, J'.base, J'.hok, rv, hQ _ _ q⟩
  refine wpAny_call (codeAny_mono rc fun r s' hq => ?_)
  cases r with
  | error e => exact tk e s' (L2N.XE.of_call I1 hE hq)
  | ok fl =>
    cases fl with
    | ret u => exact I1.after hq
    | next => exact False.elim hq
    | brk => exact False.elim hq
    | cont => exact False.elim hq
end
theorem actDY {X Y : Cx} {pins : List (Addr × Obj)} {σ : L2.St} {H : Hp} {s : Shared} {CXg : CXT} {Eg : XK} {Ng : List Str} {qg : Str} {sg : Scope} {g f c p : Addr} {n : Int} {x : Str} {cdg doc pm ctv : Value} {params : Arguments} {body : Expr} {scope : Scope} {k i : Nat} {a : Str} {pn : List (Addr × Obj)} {xe : Value → Shared → Prop} {W : WX} {tb : XK → TE} {p1 p2 : Pos} {s2 : Shared} {H2 : Hp}
    (hP : Y.prog = X.prog) (hw : Y.w = X.w) (hK : Y.K = X.K) (hmg : Y.mg = X.mg) (hba : Y.base = X.base)
    (I : Inv X pins σ H s) (L : LamD X.N x X.env.scope scope) (hp : H p = some (.tup [.int n])) (hf : s.heap.get? f = some (PySem.W.kdv_obj "<lambda>" (X.env.qual ++ "<lambda>") params (.expr body) scope (cloFrom X.env.cells scope.names []) (.ref p) doc pm c ctv)) (nf : H f = none) (hfr : f ∉ frs X.stack)
    (hbind : DBind params body scope x)
    (hun : ∀ (H' : Hp) (h' : Heap), Un (frs Y.stack) [] H2 H' s2.heap h' → Un (frs X.stack) [] H H' s.heap h')
    (tk : L2N.Takes ((gCx Y CXg Eg Ng qg sg g cdg s2 H2).tr pn xe) W) (hr : Room (k + 1) (Y.A.deeper (envOfC qg sg s2.heap.objs.size g cdg)))
    (hbody : ∀ (A : Around) (outer : List Env) (s : Shared) (H : Hp) (E : XK), Room k (A.deeper (LamX.lamEnv X scope s.heap.objs.size f c)) → PE (lamC X A outer s H E scope f c) body (tb E))
    (hN : Ng[i]? = some a) (hv : Vis sg a) (hd : (a == ("__debug__" : Str)) = false) (hcd : (a == ("__classdict__" : Str)) = false) :
    PE ((gCx Y CXg Eg Ng qg sg g cdg s2 H2).tr pn xe) (.Call (.Name a p1) [] [] p2) (tAct W f c i (X.env.qual ++ "<lambda>") fun E HZ Q => tb E σ HZ Q) := by
  unfold gCx at tk ⊢
  rw [hP, hw, hK, hmg, hba] at tk ⊢
  exact actDG I L hp hf nf hfr hbind hun tk hr hbody hN hv hd hcd
theorem pe_lamD {X : Cx} {T : List (Addr × Str)} {TT : (XK → Hp → VK → Prop) → Hp → VK → Prop} {x a y : Str} {n : Int} {g c P : Addr} {k : Nat} {st : Stmt} {fd : FuncData} {Ng : List Str} {params : Arguments} {body : Expr} {scope : Scope} {t : XK → TE} {p lpos pos p0 : Pos} {j0 : Nat}
    (hg : Gl X x) (hm : X.mg x = some (.ref g)) (F : L2.Fun X.K x x st g fd) (hb : L2.Binds X.K fd [a] []) (Sg : FnScope Ng [a] (defScope st)) (hNg : Ng[0]? = some a) (hva : Vis (defScope st) a)
    (hG : ∀ cdv : Value, Gives X Ng x (defScope st) g cdv (defBody st) a (X.env.qual ++ "<lambda>") (k + 1) TT)
    (TB : LamX.TabB X.base X.mg c P) (hcode : X.env.code = .ref c) (hmT : (P, X.env.qual ++ "<lambda>") ∈ T) (hu : ∀ p ∈ T, p.1 = P → p.2 = X.env.qual ++ "<lambda>") (hr : Room (k + 2) X.A) (L : LamD X.N y X.env.scope scope) (hdef : params.defaults = [.Constant (.int n) j0 p0]) (hkw : params.kw_defaults = [])
    (hbind : DBind params body scope y)
    (hbody : ∀ (A : Around) (outer : List Env) (s : Shared) (H : Hp) (E : XK) (f c' : Addr), Room k (A.deeper (LamX.lamEnv X scope s.heap.objs.size f c')) → PE (lamC X A outer s H E scope f c') body (t E))
    (hdb : (x == ("__debug__" : Str)) = false := by decide) (hd : (a == ("__debug__" : Str)) = false := by decide) (hcd : (a == ("__classdict__" : Str)) = false := by decide) :
    PE X (.Call (.Name x p) [.Lambda params body scope lpos] [] pos) (LamX.tLam T TT t) := by
  obtain ⟨oc, od, kV, doc, pm, an, cdv, ct, osl, rfl, lk, hcg⟩ := F.ex
  refine ⟨fun pins s σ H Q I h => ?_⟩
  obtain ⟨hT, h⟩ := h
  refine wpAny_Call_Name_kw (ld_glob I hg hm (callWith_K (h₀ := X.base) I.ok.mod.kin F.kp ?_ (by rfl) (by rfl)) hdb)
  show wpAny _ _ (spliced ((false, eval (.Lambda params body scope lpos) X.env) :: backTo pos (starEach [] X.env))) _ _ s
  refine Calls.spliced_cons (lam_makeD (n := n) I TB hcode hmT hu hT hdef hkw (fun pins s Q I q => thn (pe_int.run pins s σ H (fun v H' => v = .int n ∧ H' = H) I ⟨rfl, rfl⟩) fun v s' ⟨w, H', I', rv, e1, e2⟩ => by subst e1 e2; exact q v s' I' rv) (L.has I.ok) fun f c2 pp doc2 pm2 ctv H1 s1 I1 eN T1 hpp hf nf hfr hco => Calls.spliced_nil ⟨I1.kIn, ?_⟩)
  have rc : codeAny (model X.prog X.w) X.A (.call (.ref g) ⟨[.ref f], []⟩) (CR L2.CX0 X.stack X.prog X.w H1 s1 Q L2.E0) s1 := by
    refine LamX.run_ofS (N := Ng) (ps := [a]) (us := [.ref f]) (vs := [.ref f]) lk hcg Sg hr I1.env0 (hb s1 [.ref f] I1.kIn rfl) (.cons rfl .nil) rfl fun hr2 => ?_
    obtain ⟨t2, ht2, hq2⟩ := hG cdv f c2 s1 H1 Q (fun E H' Q' => t E σ H' Q') hr2 (fun W pn xe p1 p2 tk => actDG (i := 0) I1 L hpp hf nf hfr hbind (fun H' h' u => u) tk hr2 (fun A outer s H E hr3 => hbody A outer s H E f c2 hr3) hNg hva hd hcd) hco (h H1 eN T1)
    exact ⟨t2, ht2.nox, hq2⟩
  refine wpAny_call (codeAny_mono rc fun r s2 hq => ?_)
  cases r with
  | error e => exact (show False from hq).elim
  | ok fl =>
    cases fl with
    | ret u => exact I1.after hq
    | next => exact False.elim hq
    | brk => exact False.elim hq
    | cont => exact False.elim hq
theorem pe_lamD2 {X : Cx} {T : List (Addr × Str)} {TT TT2 : (XK → Hp → VK → Prop) → Hp → VK → Prop} {x a x2 a2 y : Str} {n : Int} {g c P g2 : Addr} {k : Nat} {st st2 : Stmt} {fd fd2 : FuncData} {Ng Ng2 : List Str} {params : Arguments} {body : Expr} {scope : Scope} {t : XK → TE} {p lpos pos p0 : Pos} {j0 : Nat}
    (hg : Gl X x) (hm : X.mg x = some (.ref g)) (F : L2.Fun X.K x x st g fd) (hb : L2.Binds X.K fd [a] []) (Sg : FnScope Ng [a] (defScope st)) (hNg : Ng[0]? = some a) (hva : Vis (defScope st) a)
    (hg2 : (defScope st).names.lookup x2 = some .globalImplicit) (hm2 : X.mg x2 = some (.ref g2)) (F2 : L2.Fun X.K x2 x2 st2 g2 fd2) (hb2 : L2.Binds X.K fd2 [a2] []) (Sg2 : FnScope Ng2 [a2] (defScope st2)) (hNg2 : Ng2[0]? = some a2) (hva2 : Vis (defScope st2) a2)
    (hG2 : ∀ (Y : Cx) (cdv : Value), Y.K = X.K → Y.mg = X.mg → Gives Y Ng2 x2 (defScope st2) g2 cdv (defBody st2) a2 (X.env.qual ++ "<lambda>") (k + 1) TT2)
    (hG : ∀ cdv : Value, Hands X Ng x (defScope st) g cdv (defBody st) a x2 (X.env.qual ++ "<lambda>") TT2 TT)
    (TB : LamX.TabB X.base X.mg c P) (hcode : X.env.code = .ref c) (hmT : (P, X.env.qual ++ "<lambda>") ∈ T) (hu : ∀ p ∈ T, p.1 = P → p.2 = X.env.qual ++ "<lambda>") (hr : Room (k + 3) X.A) (L : LamD X.N y X.env.scope scope) (hdef : params.defaults = [.Constant (.int n) j0 p0]) (hkw : params.kw_defaults = [])
    (hbind : DBind params body scope y)
    (hbody : ∀ (A : Around) (outer : List Env) (s : Shared) (H : Hp) (E : XK) (f c' : Addr), Room k (A.deeper (LamX.lamEnv X scope s.heap.objs.size f c')) → PE (lamC X A outer s H E scope f c') body (t E))
    (hdb : (x == ("__debug__" : Str)) = false := by decide) (hd : (a == ("__debug__" : Str)) = false := by decide) (hcd : (a == ("__classdict__" : Str)) = false := by decide)
    (hdb2 : (x2 == ("__debug__" : Str)) = false := by decide) (hd2 : (a2 == ("__debug__" : Str)) = false := by decide) (hcd2 : (a2 == ("__classdict__" : Str)) = false := by decide) :
    PE X (.Call (.Name x p) [.Lambda params body scope lpos] [] pos) (LamX.tLam T TT t) := by
  obtain ⟨oc, od, kV, doc, pm, an, cdv, ct, osl, rfl, lk, hcdv⟩ := F.ex
  obtain ⟨oc2, od2, kV2, doc2, pm2, an2, cdv2, ct2, osl2, rfl, lk2, hcdv2⟩ := F2.ex
  refine ⟨fun pins s σ H Q I h => ?_⟩
  obtain ⟨hT, h⟩ := h
  refine wpAny_Call_Name_kw (ld_glob I hg hm (callWith_K (h₀ := X.base) I.ok.mod.kin F.kp ?_ (by rfl) (by rfl)) hdb)
  show wpAny _ _ (spliced ((false, eval (.Lambda params body scope lpos) X.env) :: backTo pos (starEach [] X.env))) _ _ s
  refine Calls.spliced_cons (lam_makeD (n := n) I TB hcode hmT hu hT hdef hkw (fun pins s Q I q => thn (pe_int.run pins s σ H (fun v H' => v = .int n ∧ H' = H) I ⟨rfl, rfl⟩) fun v s' ⟨w, H', I', rv, e1, e2⟩ => by subst e1 e2; exact q v s' I' rv) (L.has I.ok) fun f c2 pp doc2 pm2 ctv H1 s1 I1 eN T1 hpp hf nf hfr hco => Calls.spliced_nil ⟨I1.kIn, ?_⟩)
  have rc : codeAny (model X.prog X.w) X.A (.call (.ref g) ⟨[.ref f], []⟩) (CR L2.CX0 X.stack X.prog X.w H1 s1 Q L2.E0) s1 := by
    refine LamX.run_ofS (N := Ng) (ps := [a]) (us := [.ref f]) (vs := [.ref f]) lk hcdv Sg hr I1.env0 (hb s1 [.ref f] I1.kIn rfl) (.cons rfl .nil) rfl fun hr2 => ?_
    have hp : ∀ (p1 p2 p3 : Pos), PE (gCx X L2.CX0 L2.E0 Ng x (defScope st) g cdv s1 H1).nox (.Call (.Name x2 p1) [.Name a p2] [] p3) (tPass f c2 (X.env.qual ++ "<lambda>") TT2 (fun E H' Q' => t E σ H' Q')) := by
      intro p1 p2 p3
      refine ⟨fun pinsY sY σY HY QY IY hy => ?_⟩
      obtain ⟨hs, hc, hTT⟩ := hy
      refine wpAny_Call_Name_kw (ld_glob IY (show Gl _ x2 from hg2) hm2 (callWith_K (h₀ := X.base) IY.ok.mod.kin F2.kp ?_ (by rfl) (by rfl)) hdb2)
      refine Calls.spliced_cons (thn ((pe_var (pos := p2) (i := 0) hNg hva hd hcd).run pinsY sY σY HY (fun v H1 => v = .ref f ∧ H1 = HY) IY ⟨.ref f, hs, rfl, rfl⟩) fun u s3 hu => Calls.spliced_nil ?_)
      obtain ⟨v, H3, I3, r3, ev, eH⟩ := hu
      subst ev eH
      have eu : u = Value.ref f := r3
      subst eu
      refine ⟨I3.kIn, ?_⟩
      have rc2 : codeAny (model X.prog X.w) (X.A.deeper (envOfC x (defScope st) s1.heap.objs.size g cdv)) (.call (.ref g2) ⟨[.ref f], []⟩) (CR L2.CX0 (envOfC x (defScope st) s1.heap.objs.size g cdv :: X.stack) X.prog X.w H3 s3 QY L2.E0) s3 := by
        refine LamX.run_ofS (N := Ng2) (ps := [a2]) (us := [.ref f]) (vs := [.ref f]) lk2 hcdv2 Sg2 hr2 I3.env0 (hb2 s3 [.ref f] I3.kIn rfl) (.cons rfl .nil) rfl fun hr3 => ?_
        have un3 : Un (frs X.stack) [] H1 H3 s1.heap s3.heap := I3.base
        have hun : ∀ (H' : Hp) (h' : Heap), Un (frs (gCx X L2.CX0 L2.E0 Ng x (defScope st) g cdv s1 H1).stack) [] H3 H' s3.heap h' → Un (frs X.stack) [] H1 H' s1.heap h' := fun H' h' u =>
          un_more (x := s1.heap.objs.size) (fs := frs X.stack) un3 (show Un (s1.heap.objs.size :: frs X.stack) [] H3 H' s3.heap h' from u) (fun o z => absurd (Heap.lt_size z) (Nat.lt_irrefl _))
        have hr3' : Room (k + 1) ((gCx X L2.CX0 L2.E0 Ng x (defScope st) g cdv s1 H1).A.deeper (envOfC x2 (defScope st2) s3.heap.objs.size g2 cdv2)) := hr3
        obtain ⟨t2, ht2, hq2⟩ := hG2 (gCx X L2.CX0 L2.E0 Ng x (defScope st) g cdv s1 H1) cdv2 rfl rfl f c2 s3 H3 QY (fun E H' Q' => t E σ H' Q') hr3' (fun W pn xe p1 p2 tk => actDY (X := X) (Y := gCx X L2.CX0 L2.E0 Ng x (defScope st) g cdv s1 H1) (tb := t) (i := 0) (k := k) rfl rfl rfl rfl rfl I1 L hpp hf nf hfr hbind hun tk hr3' (fun A outer s H E hr4 => hbody A outer s H E f c2 hr4) hNg2 hva2 hd2 hcd2) hc hTT
        exact ⟨t2, ht2.nox, hq2⟩
      refine wpAny_call (codeAny_mono rc2 fun r s4 hq => ?_)
      cases r with
      | error e => exact (show False from hq).elim
      | ok fl =>
        cases fl with
        | ret u => exact I3.after hq
        | next => exact False.elim hq
        | brk => exact False.elim hq
        | cont => exact False.elim hq
    obtain ⟨t2, ht2, hq2⟩ := hG cdv f c2 s1 H1 Q (fun E H' Q' => t E σ H' Q') hp hco (h H1 eN T1)
    exact ⟨t2, ht2.nox, hq2⟩
  refine wpAny_call (codeAny_mono rc fun r s2 hq => ?_)
  cases r with
  | error e => exact (show False from hq).elim
  | ok fl =>
    cases fl with
    | ret u => exact I1.after hq
    | next => exact False.elim hq
    | brk => exact False.elim hq
    | cont => exact False.elim hq
end LmN

namespace EnT
open PySem PySem.Spec PyProof.Rows L2
/-- a fresh enumerate over the iterator at j -/
abbrev enO (j : Addr) : Obj := { cls := .type "enumerate", data := .fields #[.none, .bool false, .ref j, rawInt 0, .none, .none] }
theorem en_new {v : Value} {oi : Obj} {Hh : Heap → Prop} (B : Begins v oi Hh) :
    Meets (Builtin.«enumerate.__new__» ⟨[.type "enumerate", v], []⟩) (fun _ R s => Hh s.heap ∧ R (.ok (.ret (.ref (s.heap.push oi).objs.size))) { s with heap := (s.heap.push oi).push (enO s.heap.objs.size) }) :=
  .of_wp fun prog w A R s hyp => by
    obtain ⟨mem, gg, dd, tt, sys⟩ := s
    obtain ⟨okv, fin⟩ := hyp
    have hsub := sub_enumerate
    have step : ∀ {A2 : Around} {E2 : Value → Shared → Prop} {Q2 : Value → Shared → Prop}, Q2 (.ref mem.objs.size) ⟨mem.push oi, gg, dd, tt, sys⟩ → wpAny (model prog w) A2 (pyIter v) Q2 E2 ⟨mem, gg, dd, tt, sys⟩ :=
      fun z => B.iter prog w _ _ ⟨mem, gg, dd, tt, sys⟩ _ okv z
    wp_walk using step
    refine wpAny_stack_any fun _ => wpAny_pure ?_
    split
    · rename_i cc _ _ _ _ _
      cases (cc == Value.type "enumerate") <;> (wp_walk using step; exact ⟨_, rfl, fin⟩)
    · (wp_walk using step); exact ⟨_, rfl, fin⟩
theorem en_call {prog : Program} {w : World} {A : Around} {E : Value → Shared → Prop} {s : Shared} {v : Value} {oi : Obj} {Hh : Heap → Prop} {Q : Value → Shared → Prop} (B : Begins v oi Hh) (okv : Hh s.heap)
    (fin : ∀ h2, IsEnum h2 (s.heap.objs.size + 1) s.heap.objs.size 0 .none → h2.get? s.heap.objs.size = some oi → (∀ b o, s.heap.get? b = some o → h2.get? b = some o) → Q (.ref (s.heap.objs.size + 1)) { s with heap := h2 }) :
    wpAny (model prog w) A (call (.type "enumerate") [v]) Q E s := by
  refine callType_new F.called_enumerate (by decide) (F.typeCall_enumerate_1 v) (F.newCall_enumerate_1 v) (fun ob => F.args_object_init_2 ob v) F.entry_enumerate_new (en_new B) ⟨okv, ?_⟩
  have sz1 : (s.heap.push oi).objs.size = s.heap.objs.size + 1 := Heap.size_push ..
  have isE : IsEnum ((s.heap.push oi).push (enO s.heap.objs.size)) (s.heap.objs.size + 1) s.heap.objs.size 0 .none := by
    have g := Heap.get?_push_size (s.heap.push oi) (o := enO s.heap.objs.size) rfl
    rw [sz1] at g
    exact g
  show _ ∧ _
  rw [sz1]
  exact ⟨⟨_, isE, rfl⟩, fin _ isE (Heap.get?_push_of_some _ (Heap.get?_push_size _ B.free)) fun b o z => Heap.get?_push_of_some _ (Heap.get?_push_of_some _ z)⟩
/-- the tuple at t, each item in a new pair -/
def Iet (K : PySem.W.Frag) (t : Addr) : It :=
  ⟨fun i H => ∃ (xs : List V) (x : V), SqT K H t xs ∧ xs[i]? = some x, fun i H v H' => ∃ pr x, v = .ref pr ∧ H pr = none ∧ H' = upd H pr (.tup [.int (i : Nat), x]) ∧ ∀ xs, SqT K H t xs → xs[i]? = some x, fun i H => ∃ xs : List V, SqT K H t xs ∧ xs.length ≤ i⟩
theorem ne_it {h : Heap} {t it : Addr} {i : Nat} {its : Array Value} (a : h.IsTuple t its) (b : h.IsTupleIter it t i) : t ≠ it := fun z => by
  obtain ⟨o1, e1, c1, _⟩ := a
  obtain ⟨o2, e2, c2, _⟩ := b
  rw [z, e2] at e1
  cases e1
  rw [c1] at c2
  exact absurd (Value.type.inj c2) (by decide)
theorem turn_enT {P : Program} {w : World} {K : PySem.W.Frag} {elts : List Expr} {kk : Nat} {tpos : Pos} (t e it : Addr) :
    Turn P w K (.Tuple elts kk tpos) (Iet K t) [e, it] e (fun i h => (∃ old, IsEnum h e it ((i : Nat) : Int) old) ∧ h.IsTupleIter it t i ∧ e ≠ it ∧ e ≠ t) where
  mem := List.mem_cons_self
  obj := fun i h tn b hb => by
    obtain ⟨⟨_, he⟩, ⟨o, ho, _, hd⟩, _⟩ := tn
    rcases List.mem_cons.mp hb with z | z
    · rw [z]; exact ⟨_, he, fun v y => nomatch y⟩
    · rw [List.mem_singleton.mp z]; exact ⟨o, ho, fun v y => by rw [hd] at y; cases y⟩
  keep := fun i h h' tn kp => by
    obtain ⟨⟨old, he⟩, hi, n1, n2⟩ := tn
    exact ⟨⟨old, kp e (by simp) _ he⟩, hi.at fun o z => kp it (by simp) o z, n1, n2⟩
  item := by
    intro X hP hw hK hc i pins s σ H E I hf tn hg
    subst hP hw hK
    obtain ⟨⟨old, he⟩, hit, n1, n2⟩ := tn
    obtain ⟨xs, x, hq, hx⟩ := hg
    obtain ⟨its, rv, tp, _⟩ := I.tuple hq
    obtain ⟨u, hu, ru⟩ := rv.get hx
    have tp' : s.heap.IsTuple t its.toArray := tp
    have le : e < s.heap.objs.size := Heap.lt_size he
    have li : it < s.heap.objs.size := by obtain ⟨_, y, _⟩ := hit; exact Heap.lt_size y
    have hi : i < its.toArray.size := by
      have := (List.getElem?_eq_some_iff.mp hu).1
      simpa using this
    have hd : X.A.in1.handled = none := I.ok.hd hc
    refine wpAny_pyNext_enum_itemD (Draws.tuple hd it t (ne_it tp' hit) its.toArray) he ⟨hit, tp'⟩ hi n1 (fun z => ?_) fun y h2 tk hy ho hst hT hsz kp => ?_
    · rcases List.mem_cons.mp z with z | z
      · exact n1 z
      · exact n2 (List.mem_singleton.mp z)
    have ey : y = u := by
      have : its.toArray[i]? = some y := hy
      rw [List.getElem?_toArray, hu] at this
      exact (Option.some.inj this).symm
    subst ey
    refine ⟨_, rfl, wpAny_letOwnedTupleGo_enum (s := { s with heap := h2, toks := tk + 1 }) ho fun h3 he3 sb => ?_⟩
    have hT3 : h3.get? s.heap.objs.size = some { cls := .type "tuple", data := .seq #[.int i tk, y] } := (sb.2 _ (Nat.ne_of_gt le)).trans hT
    have made : ObjOk X.prog X.w (upd H s.heap.objs.size (.tup [.int (i : Nat), x])) h3 s.heap.objs.size (.tup [.int (i : Nat), x]) := ⟨by show 2 ≤ sizeLine; decide, [.int i tk, y], .cons ⟨_, rfl⟩ (.cons ru .nil), ⟨_, hT3, rfl, _, rfl⟩⟩
    have I3 : Inv X pins σ (upd H s.heap.objs.size (.tup [.int (i : Nat), x])) { s with heap := h3, toks := tk + 1 } :=
      I.turnedNew (ch := [e, it]) (fun b ob nb z => (sb.2 b (fun y => nb (by simp [y]))).trans (kp b ob (fun y => nb (by simp [y])) (fun y => nb (by simp [y])) z)) hf (Nat.le_refl _) made
    refine ⟨.ref s.heap.objs.size, _, I3, rfl, ⟨_, x, rfl, I.hok.fresh (Nat.le_refl _), rfl, fun ys hys => by rw [I.tuple_inj hys hq]; exact hx⟩, ⟨⟨y, ?_⟩, hst.1.at fun o z => (sb.2 it (Ne.symm n1)).trans z, n1, n2⟩, fun b hb => ?_⟩
    · rw [show ((i + 1 : Nat) : Int) = (i : Int) + 1 by omega]; exact he3
    · have lb : b < s.heap.objs.size := by
        rcases List.mem_cons.mp hb with z | z
        · rw [z]; exact le
        · rw [List.mem_singleton.mp z]; exact li
      rw [upd_ne (Nat.ne_of_lt lb)]
      exact (hf b hb).1
  done := by
    intro X hP hw hK hc i pins s σ H E I hf tn hg
    subst hP hw hK
    obtain ⟨⟨old, he⟩, hit, n1, n2⟩ := tn
    obtain ⟨xs, hq, hx⟩ := hg
    obtain ⟨its, rv, tp, _⟩ := I.tuple hq
    have tp' : s.heap.IsTuple t its.toArray := tp
    obtain ⟨f0, f1, f2, f3, f4, f5⟩ := hf it (by simp)
    have hl := rv.length
    have hd : X.A.in1.handled = none := I.ok.hd hc
    have dr := Draws.tuple (prog := X.prog) (w := X.w) hd it t (ne_it tp' hit) its.toArray
    have D2 : Draws X.prog X.w X.A.in1 it [it, t] i (fun _ _ => False) (fun j h => j = i ∧ h.IsTupleIter it t i ∧ h.IsTuple t its.toArray) :=
      { live := fun _ _ st => let ⟨o, ho, _⟩ := st.2.1; ⟨o, ho⟩
        frame := fun _ _ _ st hk => ⟨st.1, st.2.1.at fun o z => hk it (by simp) o z, st.2.2.at fun o z => hk t (by simp) o z⟩
        item := fun j s Q E hj st hQ => absurd st.1 (Nat.ne_of_lt hj)
        done := fun s Q E st hE => wpAny_nextOf_tuple_end hd st.2.1 st.2.2 (by simp; omega) hE }
    exact wpAny_pyNext_enum_endD D2 he ⟨rfl, hit, tp'⟩ fun h' eb => ⟨rfl, I.turned (t' := s.toks) (fun b o nb z => eb b o nb z) f0 f1 f3 f4 f5⟩
  self := fun A i s Q E tn z => let ⟨⟨_, he⟩, _⟩ := tn; wpAny_pyIter_enum he z
def iEnT (K : PySem.W.Frag) (ta : TA) : TI := fun σ H R => ta σ H fun vs H1 => ∃ t xs, vs = [.ref t] ∧ SqT K H1 t xs ∧ R (Iet K t) H1
theorem pi_enumT {X : Cx} {e : Expr} {ta : TA} {p pos tpos : Pos} {elts : List Expr} {kk : Nat} (hg : Gl X "enumerate") (hm : X.mg "enumerate" = none) (ha : PA X [e] ta) (hs : starEach [e] X.env = [(false, eval e X.env)] := by rfl) :
    PI X (.Tuple elts kk tpos) (.Call (.Name "enumerate" p) [e] [] pos) (iEnT X.K ta) := by
  refine ⟨fun pins s σ H R I h => ?_⟩
  refine Call_ (ld_blt I hg hm boot_enumerate (PyProof.Rows.callWith_type1 (thn (ha.run pos pins s σ H _ I h) fun us s1 ⟨vs, H1, I1, r1, q1⟩ => ?_) hs rfl))
  obtain ⟨t, xs, ev, hq, fin⟩ := q1
  subst ev
  cases r1 with
  | cons r rr =>
    cases rr
    cases r
    obtain ⟨its, rv, tp, _⟩ := I1.tuple hq
    have tp' : s1.heap.IsTuple t its.toArray := tp
    obtain ⟨ot, hot, _⟩ := id tp'
    refine en_call (begins_tuple t its.toArray) tp' fun h2 isE hit kp => wpAny_pyIter_enum isE ?_
    refine ⟨s1.heap.objs.size + 1, [s1.heap.objs.size + 1, s1.heap.objs.size], _, _, H1, rfl, I1.kept (t' := s1.toks) kp, turn_enT t (s1.heap.objs.size + 1) s1.heap.objs.size, ⟨⟨.none, isE⟩, ⟨_, hit, rfl, rfl⟩, Nat.succ_ne_self _, fun z => ?_⟩, fun b hb => ?_, fin⟩
    · have lt := Heap.lt_size hot
      rw [← z] at lt
      exact absurd lt (Nat.not_lt.mpr (Nat.le_succ _))
    · have lb : s1.heap.objs.size ≤ b := by
        rcases List.mem_cons.mp hb with z | z
        · rw [z]; exact Nat.le_add_right _ _
        · rw [List.mem_singleton.mp z]; exact Nat.le_refl _
      exact I1.fpOk lb (I1.hok.fresh lb)
theorem pi_or {X : Cx} {tg it : Expr} {w1 w2 : TI} (a : PI X tg it w1) (b : PI X tg it w2) : PI X tg it (fun σ H R => w1 σ H R ∨ w2 σ H R) := ⟨fun pins s σ H R I h => h.elim (a.run pins s σ H R I) (b.run pins s σ H R I)⟩
end EnT

namespace StT
open PySem PySem.Spec PyProof.Rows L2
/-- what is known of a set built of the first i texts -/
def Known (xs : List Str) (i : Nat) (S : Str → Bool) (m : Nat) : Prop := (∀ k, S k = (xs.take i).any (· == k)) ∧ m ≤ i ∧ (m = i → (xs.take i).Nodup)
theorem Known.more {xs : List Str} {i m : Nat} {S : Str → Bool} {x : Str} (h : Known xs i S m) (hx : xs[i]? = some x) : Known xs (i + 1) (fun k => S k || decide (k = x)) (if S x then m else m + 1) := by
  obtain ⟨h1, h2, h3⟩ := h
  have tk : xs.take (i + 1) = xs.take i ++ [x] := by rw [List.take_add_one, hx]; rfl
  refine ⟨fun k => ?_, ?_, fun e => ?_⟩
  · rw [tk, List.any_append, ← h1 k]
    congr 1
    by_cases q : k = x
    · subst q; simp
    · have : (x == k) = false := by simpa [beq_iff_eq] using fun z : x = k => q z.symm
      simp [q, this]
  · split <;> omega
  · cases q : S x with
    | true => rw [q] at e; simp at e; omega
    | false =>
      rw [q] at e
      have em : m = i := by simpa using e
      rw [tk, List.nodup_append]
      refine ⟨h3 em, by simp, fun u hu v hv => ?_⟩
      rw [List.mem_singleton.mp hv]
      intro z
      subst z
      have := h1 u
      rw [q] at this
      have hany : (xs.take i).any (· == u) = true := List.any_eq_true.mpr ⟨u, hu, by simp⟩
      rw [hany] at this
      cases this
section
variable {prog : Program} {w : World} {A : Around} {R : Result → Shared → Prop} {I : Addr} {fp wr : List Addr} {G : Array GenState → Array GenState → Prop} {n : Nat} {P : Nat → Value → Prop} {St : Nat → Shared → Prop}
theorem fill (W : WalksS prog w A.in1 I fp wr G n P St) (S : Addr) (nS : S ∉ fp) (xs : List Str) (hn : xs.length = n) (small : n ≤ 1000) (hv : ∀ i v, P i v → ∃ t, v = .str (xs.getD i Str.empty) t) :
    ∀ (k i : Nat) (s : Shared) (F : Str → Bool) (m : Nat), n - i = k → i ≤ n → St i s → s.heap.SetOf (PySem.strKind prog w) S F m → Known xs i F m →
      (∀ s' F' m', Moved (S :: wr) G s s' → s'.heap.SetOf (PySem.strKind prog w) S F' m' → Known xs n F' m' → R (.ok (.ret .none)) s') → codeAny (model prog w) A (.builtin "set.update.loop" ⟨[.ref S, .ref I], []⟩) R s := by
  have nW : S ∉ wr := fun z => nS (W.sub _ z)
  have up : ∀ b ∈ wr, b ∈ S :: wr := fun b z => List.mem_cons_of_mem _ z
  intro k
  induction k with
  | zero =>
    intro i s F m hk hi hst hS hK fin
    obtain rfl : i = n := by omega
    refine codeAny_builtin PyProof.Rows.F.entry_set_update_loop ?_
    rw [Around.under_plainId PyProof.Rows.F.plain_set_update_loop _]
    refine wpAny_bind (W.done s _ _ hst fun s1 mv => wpAny_pure (fin s1 F m (mv.mono up) ?_ hK))
    obtain ⟨o, es, ep, tb, ho, more⟩ := hS; exact ⟨o, es, ep, tb, mv.heap S _ nW ho, more⟩
  | succ k ih =>
    intro i s F m hk hi hst hS hK fin
    have lt : i < n := by omega
    refine codeAny_builtin PyProof.Rows.F.entry_set_update_loop ?_
    rw [Around.under_plainId PyProof.Rows.F.plain_set_update_loop _]
    refine wpAny_bind (W.item i s _ _ lt hst fun v s1 hP st1 mv => ?_)
    obtain ⟨tt, rfl⟩ := hv i v hP
    have S1 : s1.heap.SetOf (PySem.strKind prog w) S F m := by obtain ⟨o, es, ep, tb, ho, more⟩ := hS; exact ⟨o, es, ep, tb, mv.heap S _ nW ho, more⟩
    have mi := hK.2.1
    refine wpAny_bind (wpAny_holding ?_)
    unfold setAdd
    refine wpAny_holding (wpAny_bind ((PySem.strKind prog w).pyHash (k := xs.getD i Str.empty) (strKind_is _ _ _ _) ?_))
    refine wpAny_setAddHashed_of (knd := PySem.strKind prog w) (s := { s1 with toks := s1.toks + 1 }) (strKind_is _ _ _ _) rfl S1 (by unfold scanBound; omega) fun h2 sb S2 => ?_
    have hx : xs[i]? = some (xs.getD i Str.empty) := by
      have l : i < xs.length := by omega
      rw [List.getElem?_eq_getElem l, List.getD_eq_getElem?_getD, List.getElem?_eq_getElem l]; rfl
    have away : ∀ b ∈ fp, b ≠ S := fun b hb z => nS (by rw [← z]; exact hb)
    refine wpAny_pure ⟨plainId_quiet PyProof.Rows.F.plain_set_update_loop _, ih (i + 1) _ _ _ (by omega) lt (W.frame _ s1 _ _ st1 (Nat.le_succ _) fun b hb o z => (sb.2 b (away b hb)).trans z) S2 (hK.more hx) fun s3 F3 m3 mv3 S3 K3 => ?_⟩
    exact fin s3 F3 m3 (Moved.trans W.gtrans ((mv.mono up).then_heap (Nat.le_succ _) fun b o hb z => (sb.2 b (fun y : b = S => hb (by rw [y]; exact List.mem_cons_self))).trans z) mv3) S3 K3
end
section
variable {prog : Program} {w : World} {A : Around} {E : Value → Shared → Prop} {s : Shared}
abbrev set0 (led : Bool) : Obj := { cls := .type "set", dict := none, data := .set #[] 0 (.fresh 0 0 led) }
set_option maxHeartbeats 3200000 in
theorem set_texts {l : Addr} {items : Array Value} {xs : List Str} {Q : Value → Shared → Prop} (hh : A.handled = none) (hl : s.heap.IsList l items) (hi : PyProof.Rows.StrsAre items.toList xs) (small : xs.length ≤ 1000)
    (fin : ∀ (h2 : Heap) (tk : Nat) (F : Str → Bool) (m : Nat), h2.SetOf (PySem.strKind prog w) s.heap.objs.size F m → Known xs xs.length F m → (∀ b o, b < s.heap.objs.size → s.heap.get? b = some o → h2.get? b = some o) → Q (.ref s.heap.objs.size) { s with heap := h2, toks := tk }) :
    wpAny (model prog w) A (call (.type "set") [.ref l]) Q E s := by
  obtain ⟨c, tl, hmro⟩ := PySem.F.called_set.mro
  have hmade := PySem.F.called_set.made; have hsub := PySem.F.called_set.sub
  refine wpAny_call (codeAny_of_tree ?_)
  show wpAny _ _ (callAny (.type "set") _) _ _ _
  refine wpAny_pure ⟨Code.quiet_builtin _ (by decide +kernel), codeAny_builtin PySem.F.entry_type_call ?_⟩
  rw [Around.under_plain (weight_type_call_type "set" [.ref l] []) rfl]
  have e1 := PySem.F.called_set.notType; have e2 := PySem.F.called_set.canCreate; have e3 := PySem.F.typeCall_set_1 (.ref l)
  repeat (any_goals (first | assumption | wp_step))
  refine codeAny_mono (code_set_new_1 (.ref l) (E := E) (Q₁ := fun ob s1 => ∃ led : Bool, ob = .ref s.heap.objs.size ∧ s1 = { s with heap := s.heap.push (set0 led) }) fun led => ⟨led, rfl, rfl⟩) fun r s1 hr => ?_
  cases r with
  | error e => exact hr
  | ok fl =>
    cases fl with
    | ret ob =>
      obtain ⟨led, rfl, rfl⟩ := hr
      have at0 : (s.heap.push (set0 led)).get? s.heap.objs.size = some (set0 led) := Heap.get?_push_size _ rfl
      have ty : Shared.TypeIs { s with heap := s.heap.push (set0 led) } (.ref s.heap.objs.size) "set" := ⟨_, at0, rfl⟩
      have i1 := PySem.F.called_set.init.lookup; have i2 := PySem.F.called_set.init.bind (.ref s.heap.objs.size)
      repeat (any_goals (first | assumption | wp_step))
      refine codeAny_mono (codeAny_call_builtin (R := wants (fun r s2 => r = .none ∧ ∃ h2 tk F m, s2 = { s with heap := h2, toks := tk } ∧ h2.SetOf (PySem.strKind prog w) s.heap.objs.size F m ∧ Known xs xs.length F m ∧
          (∀ b o, b < s.heap.objs.size → s.heap.get? b = some o → h2.get? b = some o)) E) PySem.F.called_set.init.plain PySem.F.entry_set_init (check_set_init_1 ty ?_)) fun r2 s2 hr2 => ?_
      · obtain ⟨⟨oc, odc, odt, osl⟩, hol, hcl, nl, hdl⟩ := hl
        simp only at hcl hdl
        subst hcl hdl
        have hol1 : (s.heap.push (set0 led)).get? l = some { cls := .type "list", dict := odc, data := .seq items nl, slots := osl } := Heap.get?_push_of_some _ hol
        have z1 := PySem.F.sub_list_set; have z2 := PySem.F.sub_list_frozenset
        have z3 : (Value.type "list" == Value.type "dict") = false := by decide
        have hl1 : (s.heap.push (set0 led)).IsList l items := ⟨_, hol1, rfl, nl, rfl⟩
        unfold Builtin.«set.__init__» noKeywords Builtin.Frozenset.updateFrom
        generalize hPI : pyIter = PI; wp_walk; subst hPI
        refine wpAny_pyIter_list hl1 (wpAny_bind (wpAny_runValue ?_))
        have lS : l < s.heap.objs.size := Heap.lt_size hol
        have hh3 : A.in1.in1.in1.handled = none := by simp [hh]
        have szp : (s.heap.push (set0 led)).objs.size = s.heap.objs.size + 1 := Heap.size_push ..
        have nI : l ≠ (s.heap.push (set0 led)).objs.size := by rw [szp]; exact Nat.ne_of_lt (Nat.lt_succ_of_lt lS)
        have nS : s.heap.objs.size ∉ [(s.heap.push (set0 led)).objs.size, l] := by
          rw [szp]; intro z
          rcases List.mem_cons.mp z with z | z
          · exact absurd z (Nat.ne_of_lt (Nat.lt_succ_self _))
          · exact absurd (List.mem_singleton.mp z) (Nat.ne_of_gt lS)
        have len : xs.length = items.size := by rw [← StrsAre.len_eq hi, Array.length_toList]
        have val : ∀ (i : Nat) (v : Value), items[i]? = some v → ∃ t, v = .str (xs.getD i Str.empty) t := fun i v z => SS.strs_at hi i v (by rw [Array.getElem?_toList]; exact z)
        refine fill ((Walks.list hh3 _ l nI items).toS) s.heap.objs.size nS xs len (by rw [← len]; exact small) val (items.size - 0) 0 _ (fun _ => false) 0 (by omega) (Nat.zero_le _) ⟨⟨_, Heap.get?_push_size _ rfl, rfl, rfl⟩, (hl1.push _)⟩ ?_ ⟨fun _ => rfl, Nat.le_refl _, fun _ => List.nodup_nil⟩ ?_
        · exact (PyProof.Rows.setObjOf_fresh (knd := PySem.strKind prog w) led).setOf (Heap.get?_push_of_some _ at0) (by unfold scanBound; omega)
        · intro s3 F3 m3 mv S3 K3
          obtain ⟨h3, g3, d3, t3, o3⟩ := s3
          obtain rfl : g3 = s.gens := mv.gens
          obtain rfl : d3 = s.drawn := mv.drawn
          obtain rfl : o3 = s.os := mv.os
          refine wpAny_pure (wpAny_pure ⟨rfl, h3, t3, F3, m3, rfl, S3, by rw [len]; exact K3, fun b o hb z => ?_⟩)
          refine mv.heap b o (fun y => ?_) (Heap.get?_push_of_some _ (Heap.get?_push_of_some _ z))
          rcases List.mem_cons.mp y with y | y
          · exact absurd y (Nat.ne_of_lt hb)
          · have y' := List.mem_singleton.mp y
            rw [szp] at y'
            exact absurd y' (Nat.ne_of_lt (Nat.lt_succ_of_lt hb))
      · cases r2 with
        | error e => exact hr2
        | ok fl2 =>
          cases fl2 with
          | ret r =>
            obtain ⟨rfl, h2, tk, F, m, rfl, S2, K2, kp⟩ := hr2
            repeat (any_goals (first | assumption | wp_step))
            exact fin _ _ _ _ S2 K2 kp
          | _ => exact hr2.elim
    | _ => exact hr.elim
end
/-- len(set(xs)) of a list of texts -/
def tLenSetT (K : PySem.W.Frag) (ta : TE) : TE := fun σ H Q => ta σ H fun x H1 => ∃ l, ∃ xs : List Str, x = .ref l ∧ SqL K H1 l (xs.map V.str) ∧ xs.length ≤ 1000 ∧ ∀ m : Nat, m ≤ xs.length → (m = xs.length → xs.Nodup) → Q (.int m) H1
theorem pe_lenSetT {X : Cx} {e : Expr} {ta : TE} {p p2 q pos : Pos} (hc : X.calm = true) (hg : Gl X "len") (hm : X.mg "len" = none) (hg2 : Gl X "set") (hm2 : X.mg "set" = none) (ha : PE X e ta)
    (na : starEach [e] X.env = (false, eval e X.env) :: starEach [] X.env := by rfl) : PE X (.Call (.Name "len" p) [.Call (.Name "set" p2) [e] [] q] [] pos) (tLenSetT X.K ta) := by
  refine ⟨fun pins s σ H Q I h => ?_⟩
  refine Call_ (ld_blt I hg hm boot_len (PyProof.Rows.callWith_builtin1 (PyProof.Rows.args_cons ?_ rfl) rfl rfl))
  refine Call_ (ld_blt I hg2 hm2 boot_set ?_)
  refine PyProof.Rows.callWith_type1 (PyProof.Rows.args_cons (thn (ha.run pins s σ H _ I h) fun v s1 ⟨x, H1, I1, r1, q1⟩ => PyProof.Rows.args_nil ?_) na) na rfl
  obtain ⟨l, xs, rfl, hq, small, q1⟩ := q1
  cases r1
  obtain ⟨its, rv, pl, hz⟩ := I1.list hq
  refine set_texts (I1.ok.hd hc) pl.isList (by simpa using strsAre_of rv) small fun h2 tk F m S2 K2 kp => PyProof.Rows.args_nil ?_
  obtain ⟨o, es, ep, t, ho, hex, hd, _, _, _, hf, hn⟩ := S2
  have I2 : Inv X pins σ H1 { s1 with heap := h2, toks := tk } := I1.kept fun b o z => kp b o (Heap.lt_size z) z
  have k1 := K2.2.1
  refine call_len_set ho hex hd hf (by rw [hn]; omega) ⟨.int m, H1, I2.tok _, ⟨_, by rw [hn]⟩, q1 m k1 fun z => ?_⟩
  have := K2.2.2 z
  rwa [List.take_length] at this
end StT

namespace MxD
open PySem PySem.Spec PyProof.Rows L2
/-! max(xs, default=d) of a list of ints -/
theorem name_loop : (toString "max" ++ toString ".loop" : String) = "max.loop" := by decide
abbrev best0 (vs : Array Value) (c : Nat) : Obj := { cls := .type "list", dict := none, data := .seq vs c, slots := #[] }
section
variable {prog : Program} {w : World} {A : Around} {R : Result → Shared → Prop} {I : Addr} {fp wr : List Addr} {n : Nat} {P : Nat → Value → Prop} {St : Nat → Heap → Prop}
theorem turns (Wk : Walks prog w A.in1 I fp wr n P St) (bt : Nat → Nat → Bool) (cmp : CmpOf prog w A.in1 .Gt P bt) (S : Addr) (nS : S ∉ fp) (kw : List (Str × Value)) :
    ∀ (k j : Nat) (s : Shared) (u : Value) (c : Nat), n - (j + 1) = k → j + 1 ≤ n → St (j + 1) s.heap → P (argBest bt j) u → s.heap.get? S = some (best0 #[u, u] c) →
      (∀ v h2 tk, P (argBest bt (n - 1)) v → (∀ b o, b ∉ wr → b ≠ S → s.heap.get? b = some o → h2.get? b = some o) → R (.ok (.ret v)) { s with heap := h2, toks := tk }) →
      codeAny (model prog w) A (.builtin "max.loop" ⟨[.ref I, .none, .ref S], kw⟩) R s := by
  have nW : S ∉ wr := fun z => nS (Wk.sub _ z)
  intro k
  induction k with
  | zero =>
    intro j s u c hk hj st hu hS fin
    have e : j + 1 = n := by omega
    refine codeAny_builtin F.entry_max_loop ?_; rw [Around.under_plainId F.plain_max_loop _]
    refine wpAny_bind (wpAny_seqItems hS rfl (wpAny_bind (wpAny_tryCatch (Wk.done s _ _ (e ▸ st) fun h2 tk kp => ?_))))
    have S2 := kp S _ nW hS
    refine wpAny_bind (wpAny_updateSeq S2 rfl (wpAny_bind (wpAny_letGo (wpAny_pure ?_))))
    exact fin u _ tk (by rw [← e]; exact hu) fun b o nb nbS z => (Heap.get?_update_other _ _ (Ne.symm nbS)).trans (kp b o nb z)
  | succ k ih =>
    intro j s u c hk hj st hu hS fin
    have lt : j + 1 < n := by omega
    refine codeAny_builtin F.entry_max_loop ?_; rw [Around.under_plainId F.plain_max_loop _]
    refine wpAny_bind (wpAny_seqItems hS rfl (wpAny_bind (wpAny_tryCatch (Wk.item (j + 1) s _ _ lt st fun v h2 tk hP st2 kp => ?_))))
    have S2 := kp S _ nW hS
    show wpAny _ A.in1 (tryCatch (holding [v, v] (richCompare .Gt v u >>= _)) _ >>= _) _ _ _
    refine wpAny_bind (wpAny_tryCatch (wpAny_holding (wpAny_bind (cmp (j + 1) (argBest bt j) v u _ _ _ hP hu ?_))))
    refine wpAny_bind (wpAny_holding (wpAny_truthy_bool (wpAny_bind (wpAny_letGo (wpAny_pure ?_)))))
    cases hb : bt (j + 1) (argBest bt j) with
    | true =>
      simp only [if_true]
      refine wpAny_bind (wpAny_updateSeq S2 rfl (wpAny_bind (wpAny_letGo ?_))); rw [name_loop]
      refine wpAny_pure ⟨plainId_quiet F.plain_max_loop _, ih (j + 1) _ v _ (by omega) lt (Wk.frame _ _ _ st2 fun b hbf o z => ?_) (by simp only [argBest, hb, if_true]; exact hP) (Heap.get?_update_self _ S2 rfl) fun v3 h3 t3 P3 kp3 => ?_⟩
      · exact (Heap.get?_update_other _ _ (fun y : S = b => nS (by rw [y]; exact hbf))).trans z
      · exact fin v3 h3 t3 P3 fun b o nb nbS z => kp3 b o nb nbS ((Heap.get?_update_other _ _ (Ne.symm nbS)).trans (kp b o nb z))
    | false =>
      simp only [Bool.false_eq_true, if_false]
      refine wpAny_bind (wpAny_letGo ?_); rw [name_loop]
      refine wpAny_pure ⟨plainId_quiet F.plain_max_loop _, ih (j + 1) _ u c (by omega) lt st2 (by simp only [argBest, hb, Bool.false_eq_true, if_false]; exact hu) S2 fun v3 h3 t3 P3 kp3 => ?_⟩
      exact fin v3 h3 t3 P3 fun b o nb nbS z => kp3 b o nb nbS (kp b o nb z)
theorem firstT (Wk : Walks prog w A.in1 I fp wr n P St) (bt : Nat → Nat → Bool) (cmp : CmpOf prog w A.in1 .Gt P bt) (S : Addr) (nS : S ∉ fp) (nm : Str) (d : Value) {s : Shared} {c : Nat} (st : St 0 s.heap) (hS : s.heap.get? S = some (best0 #[] c))
    (fin : ∀ v h2 tk, (n = 0 → v = d) → (0 < n → P (argBest bt (n - 1)) v) → (∀ b o, b ∉ wr → b ≠ S → s.heap.get? b = some o → h2.get? b = some o) → R (.ok (.ret v)) { s with heap := h2, toks := tk }) :
    codeAny (model prog w) A (.builtin "max.loop" ⟨[.ref I, .none, .ref S], [(nm, d)]⟩) R s := by
  have nW : S ∉ wr := fun z => nS (Wk.sub _ z)
  refine codeAny_builtin F.entry_max_loop ?_; rw [Around.under_plainId F.plain_max_loop _]
  refine wpAny_bind (wpAny_seqItems hS rfl (wpAny_bind (wpAny_tryCatch ?_)))
  by_cases hn : n = 0
  · refine Wk.done s _ _ (hn ▸ st) fun h2 tk kp => ?_
    refine wpAny_bind (wpAny_rule (wpAny_pure ?_))
    exact fin d h2 tk (fun _ => rfl) (fun z => absurd hn (by omega)) fun b o nb _ z => kp b o nb z
  · refine Wk.item 0 s _ _ (by omega) st fun v h2 tk hP st2 kp => ?_
    have S2 := kp S _ nW hS
    show wpAny _ A.in1 (updateSeq S (fun _ => #[v, v]) >>= _) _ _ _
    refine wpAny_bind ?_; refine wpAny_updateSeq S2 rfl ?_; rw [name_loop]
    refine wpAny_pure ⟨plainId_quiet F.plain_max_loop _, turns Wk bt cmp S nS _ _ 0 _ v _ rfl (by omega) (Wk.frame _ _ _ st2 fun b hbf o z => ?_) hP (Heap.get?_update_self _ S2 rfl) fun v3 h3 t3 P3 kp3 => ?_⟩
    · exact (Heap.get?_update_other _ _ (fun y : S = b => nS (by rw [y]; exact hbf))).trans z
    · exact fin v3 h3 t3 (fun z => absurd z hn) (fun _ => P3) fun b o nb nbS z => kp3 b o nb nbS ((Heap.get?_update_other _ _ (Ne.symm nbS)).trans (kp b o nb z))
end
section
variable {prog : Program} {w : World} {A : Around} {E : Value → Shared → Prop} {s : Shared}
theorem args_kw (a d : Value) : argsOk "max" ⟨[a], [("default", d)]⟩ := by unfold argsOk; kernel_rfl
theorem tree_kw {id : String} {b : Builtin} {args : List Value} {kw : List (Str × Value)} {Q : Value → Shared → Prop} (hk : builtinKind id = none) (hp : plainId id = true) (hb : entryFor table id = some b) (ha : argsOk id ⟨args, kw⟩)
    (hc : wpAny (model prog w) A.in1 (b ⟨args, kw⟩) (fun f s2 => match f with
      | .done g => (match (Except.ok g : Result) with | .ok (.ret v) => Q v s2 | .ok _ => False | .error e => E e s2)
      | .again c2 => c2.quiet = true ∧ codeAny (model prog w) A c2 (fun r s2 => match r with | .ok (.ret v) => Q v s2 | .ok _ => False | .error e => E e s2) s2) E s) : wpAny (model prog w) A (call (.builtin id) args kw) Q E s := by
  refine wpAny_call (codeAny_call_builtin hp hb ?_); simp only [checkBuiltinCall, hk]
  cases sg : Manifest.signature? id with
  | none => exact wpAny_pure hc
  | some q =>
    simp only [argsOk, sg] at ha
    have ok : Bind.checkArgs id q ⟨args, kw⟩ = pure () := ha
    show wpAny _ A.in1 (Bind.checkArgs id q ⟨args, kw⟩) _ _ s
    rw [ok]
    exact wpAny_pure hc
theorem max_dflt {l : Addr} {xs : Array (Int × Tok)} {d : Value} {Q : Value → Shared → Prop} (hh : A.handled = none) (hl : s.heap.IsList l (intItems xs))
    (fin : ∀ v h2 tk, (xs.size = 0 → v = d) → (0 < xs.size → (intItems xs)[argBest (fun i j => decide (numAt xs i > numAt xs j)) (xs.size - 1)]? = some v) → (∀ b o, s.heap.get? b = some o → h2.get? b = some o) → Q v { s with heap := h2, toks := tk }) :
    wpAny (model prog w) A (call (.builtin "max") [.ref l] [("default", d)]) Q E s := by
  refine tree_kw F.kind_max F.plain_max F.entry_max (args_kw _ _) ?_
  show wpAny _ A.in1 (Builtin.Builtins.bindParams "max" ["key", "default"] 0 ⟨[], [("default", d)]⟩ >>= _) _ _ s
  refine wpAny_bind (wpAny_of_eq (show Builtin.Builtins.bindParams "max" ["key", "default"] 0 ⟨[], [("default", d)]⟩ = pure [none, some d] from rfl) ?_)
  refine wpAny_bind (wpAny_pure (wpAny_bind (iter_intList hl fun s2 e st inb ne => ?_)))
  refine wpAny_bind (wpAny_newObj_type ?_)
  have nS : s2.heap.objs.size ∉ [s.heap.objs.size, l] := fun z => Nat.lt_irrefl _ (inb _ z)
  rw [name_loop]
  have Wk := Walks.list (prog := prog) (w := w) (A := A.in1) hh s.heap.objs.size l ne (intItems xs)
  refine wpAny_pure ⟨plainId_quiet F.plain_max_loop _, firstT Wk (fun i j => decide (numAt xs i > numAt xs j)) (CmpOf.ints_gt (numAt xs) (fun _ _ => intItems_at)) s2.heap.objs.size nS "default" d (Wk.frame _ _ _ st fun b _ o z => Heap.get?_push_of_some _ z) (Heap.get?_push_size _ rfl) fun v h2 tk v0 v1 kp => ?_⟩
  have sz : (intItems xs).size = xs.size := by simp [intItems]
  rw [sz] at v0 v1
  subst e
  refine fin v h2 tk v0 v1 fun b o z => ?_
  have lb := Heap.lt_size z
  refine kp b o (fun y => ?_) (fun y => ?_) (Heap.get?_push_of_some _ (Heap.get?_push_of_some _ z))
  · rw [List.mem_singleton.mp y] at lb; exact Nat.lt_irrefl _ lb
  · rw [y] at lb
    have : (s.heap.push { cls := .type "list_iterator", data := .fields #[.ref l, .int 0 0] }).objs.size = s.heap.objs.size + 1 := Heap.size_push ..
    have lb' : (s.heap.push { cls := .type "list_iterator", data := .fields #[.ref l, .int 0 0] }).objs.size < s.heap.objs.size := lb
    rw [this] at lb'
    exact absurd lb' (Nat.not_lt.mpr (Nat.le_succ _))
end
/-- max(xs, default=d): the greatest, or d -/
def rMaxD (K : PySem.W.Frag) : List V → List V → Hp → VK → Prop := fun vs zs H Q => ∃ (a : Addr) (ns : List Int) (d : V), vs = [V.ref a] ∧ zs = [d] ∧ SqL K H a (ns.map V.int) ∧ (ns = [] → Q d H) ∧ ∀ m ∈ ns, (∀ k ∈ ns, k ≤ m) → Q (.int m) H
theorem cr_maxD {X : Cx} (hc : X.calm = true) : CallRK X (.builtin "max") ["default"] (rMaxD X.K) := by
  intro pins s σ H vs zs us ws Q I r rz h
  obtain ⟨p, ns, d, rfl, rfl, hs, q0, q1⟩ := h
  obtain ⟨its, rv, hl, _⟩ := I.list hs
  rw [Vals.ref1 r]
  cases rz with
  | @cons _ dv _ _ rd rn =>
    cases rn
    have hi := rv.ints
    obtain ⟨xs, e⟩ := hi.allInts.items
    have hn : numsOf (intItems xs).toList = ns := by rw [← e]; exact hi.numsOf
    rw [nums_intItems] at hn
    subst hn
    have hl2 := hl.isList
    rw [e] at hl2
    show wpAny _ _ (call (.builtin "max") [.ref p] [("default", dv)]) _ _ _
    refine max_dflt (I.ok.hd hc) hl2 fun v h2 tk v0 v1 kp => ?_
    by_cases z : xs.size = 0
    · rw [v0 z]
      have z2 : xs.toList = [] := List.length_eq_zero_iff.mp (by rw [Array.length_toList]; exact z)
      exact ⟨d, H, I.kept kp, rd, q0 (by rw [z2]; rfl)⟩
    · obtain ⟨t, rfl⟩ := intItems_at (v1 (by omega))
      obtain ⟨_, b2⟩ := argBest_gt (numAt xs) (xs.size - 1)
      refine ⟨.int _, H, I.kept kp, ⟨_, rfl⟩, q1 _ ?_ fun k hk => ?_⟩
      · rw [numAt_eq]; exact PySem.getD_mem (by rw [List.length_map, Array.length_toList]; omega)
      · obtain ⟨j, hj, rfl⟩ := mem_getD hk
        rw [List.length_map, Array.length_toList] at hj
        rw [← numAt_eq]; exact b2 j (by omega)
end MxD

namespace NlC
open PySem PySem.Spec PyProof.Rows L2
/-! a list of anything beside the empty list -/
section
variable {X : Cx}
def rNeNil (K : PySem.W.Frag) : R2 := fun x y H Q => ∃ (a b : Addr) (xs : List V), x = .ref a ∧ y = .ref b ∧ SqL K H a xs ∧ SqL K H b [] ∧ Q (.bl (!xs.isEmpty)) H
theorem op_neNil (hu : X.A.units < cLine) : OpR X (compareOp .NotEq) (rNeNil X.K) := by
  intro pins s σ H x y v u Q I rx ry h
  obtain ⟨a, b, xs, rfl, rfl, ha, hb, q⟩ := h
  cases rx
  cases ry
  obtain ⟨its, rv, l1, _⟩ := I.list ha
  obtain ⟨its2, rv2, l2, _⟩ := I.list hb
  have l1' : s.heap.IsList a its.toArray := by obtain ⟨o, n, ho, hc, _, hd⟩ := l1; exact ⟨o, ho, hc, n, hd⟩
  have l2' : s.heap.IsList b its2.toArray := by obtain ⟨o, n, ho, hc, _, hd⟩ := l2; exact ⟨o, ho, hc, n, hd⟩
  clear l1 l2
  have e2 : its2 = [] := rv2.zero
  subst e2
  cases xs with
  | nil =>
    have e1 : its = [] := rv.zero
    subst e1
    exact SeqAt.RcNeAt.lists l1' l2' rfl hu (e := fun _ => true) (fun j h => absurd h (Nat.not_lt_zero _)) X.prog X.w _ _ ⟨.bl _, H, I, rfl, q⟩
  | cons z zs =>
    cases rv with
    | cons r1 r2 =>
      exact SeqAt.RcNeAt.lists_lengths l1' l2' (by simp) hu X.prog X.w _ _ ⟨.bl _, H, I, rfl, q⟩
end
end NlC

/-! own: zip of a tuple and a list -/
namespace ZpM
open PySem PySem.Spec PyProof.Rows L2
def Izm (K : PySem.W.Frag) (a b : Addr) : It :=
  ⟨fun i H => ∃ (xs ys : List V) (x y : V), SqT K H a xs ∧ SqL K H b ys ∧ xs[i]? = some x ∧ ys[i]? = some y, fun i H v H' => ∃ pr x y, v = .ref pr ∧ H pr = none ∧ H' = upd H pr (.tup [x, y]) ∧ (∀ xs, SqT K H a xs → xs[i]? = some x) ∧ ∀ ys, SqL K H b ys → ys[i]? = some y, fun i H => ∃ xs ys : List V, SqT K H a xs ∧ SqL K H b ys ∧ i ≤ xs.length ∧ i ≤ ys.length ∧ (i = xs.length ∨ i = ys.length)⟩
/-- what a zip of the two keeps -/
def Tn (z TI TO i1 i2 a b : Addr) (i : Nat) (h : Heap) : Prop := IsZip h z TI TO .none ∧ IsTupOf2 h TI (.ref i1) (.ref i2) ∧ (∃ x y, IsTupOf2 h TO x y) ∧ h.IsTupleIter i1 a i ∧ h.IsListIter i2 b i
theorem mem5 {c z TI TO i1 i2 : Addr} (h : c ∈ [z, TI, TO, i1, i2]) : c = z ∨ c = TI ∨ c = TO ∨ c = i1 ∨ c = i2 := by simpa using h
theorem turn_zm {P : Program} {w : World} {K : PySem.W.Frag} {elts : List Expr} {kk : Nat} {tpos : Pos} {a b z TI TO i1 i2 : Addr} (S : ZipSep2 z TI TO i1 i2 [i1, a] [i2, b]) :
    Turn P w K (.Tuple elts kk tpos) (Izm K a b) [z, TI, TO, i1, i2] z (Tn z TI TO i1 i2 a b) where
  mem := List.mem_cons_self
  obj := fun i h tn c hc => by
    obtain ⟨tz, tI, ⟨x, y, tO⟩, ⟨o1, e1, _, d1⟩, ⟨o2, e2, _, d2⟩⟩ := tn
    rcases mem5 hc with q | q | q | q | q <;> rw [q]
    · exact ⟨_, tz, fun v y => nomatch y⟩
    · exact ⟨_, tI, fun v y => nomatch y⟩
    · exact ⟨_, tO, fun v y => nomatch y⟩
    · exact ⟨o1, e1, fun v y => by rw [d1] at y; cases y⟩
    · exact ⟨o2, e2, fun v y => by rw [d2] at y; cases y⟩
  keep := fun i h h' tn kp => by
    obtain ⟨tz, tI, ⟨x, y, tO⟩, t1, t2⟩ := tn
    exact ⟨kp z (by simp) _ tz, kp TI (by simp) _ tI, ⟨x, y, kp TO (by simp) _ tO⟩, t1.at fun o e => kp i1 (by simp) o e, t2.at fun o e => kp i2 (by simp) o e⟩
  item := by
    intro X hP hw hK hc i pins s σ H E I hf tn hg
    subst hP hw hK
    obtain ⟨tz, tI, ⟨x0, y0, tO⟩, t1, t2⟩ := tn
    obtain ⟨xs, ys, x, y, qx, qy, hx, hy⟩ := hg
    obtain ⟨its, rv, p1, _⟩ := I.tuple qx
    obtain ⟨jts, rw2, p2, _⟩ := I.list qy
    obtain ⟨u, hu, ru⟩ := rv.get hx
    obtain ⟨v, hv, rv2⟩ := rw2.get hy
    have l1 : s.heap.IsTuple a its.toArray := p1
    have l2 : s.heap.IsList b jts.toArray := p2.isList
    have na : a ≠ i1 := fun e => by
      obtain ⟨_, g1, c1, _⟩ := l1
      obtain ⟨_, g2, c2, _⟩ := t1
      rw [e, g2] at g1
      cases g1
      rw [c1] at c2
      exact absurd (Value.type.inj c2) (by decide)
    have nb : b ≠ i2 := fun e => by
      obtain ⟨_, _, g1, c1, _⟩ := p2
      obtain ⟨_, g2, c2, _⟩ := t2
      rw [e, g2] at g1
      cases g1
      rw [c1] at c2
      exact absurd (Value.type.inj c2) (by decide)
    have hh : X.A.in1.handled = none := I.ok.hd hc
    have zl : z < s.heap.objs.size := Heap.lt_size tz
    refine wpAny_pyNext_zipD2_item S (Draws.tuple hh i1 a na its.toArray) (Draws.list hh i2 b nb jts.toArray) tz tI tO ⟨t1, l1⟩ ⟨t2, l2⟩ ?_ ?_ fun u' v' h2 tk hu' hv' z2 O2 s1 s2 hT hs kp => ?_
    · have := (List.getElem?_eq_some_iff.mp hu).1
      simpa using this
    · have := (List.getElem?_eq_some_iff.mp hv).1
      simpa using this
    have eu : u' = u := by
      have h : its.toArray[i]? = some u' := hu'
      rw [List.getElem?_toArray, hu] at h
      exact (Option.some.inj h).symm
    have ev : v' = v := by
      have h : jts.toArray[i]? = some v' := hv'
      rw [List.getElem?_toArray, hv] at h
      exact (Option.some.inj h).symm
    subst eu ev
    refine ⟨_, rfl, wpAny_letOwnedTupleGo_zip (s := { s with heap := h2, toks := tk }) z2 fun h3 z3 sb => ?_⟩
    have T3 : h3.get? s.heap.objs.size = some { cls := .type "tuple", data := .seq #[u', v'] } := (sb.2 _ (Nat.ne_of_gt zl)).trans hT
    have made : ObjOk X.prog X.w (upd H s.heap.objs.size (.tup [x, y])) h3 s.heap.objs.size (.tup [x, y]) := ⟨by show 2 ≤ sizeLine; decide, [u', v'], .cons ru (.cons rv2 .nil), ⟨_, T3, rfl, _, rfl⟩⟩
    have I3 : Inv X pins σ (upd H s.heap.objs.size (.tup [x, y])) { s with heap := h3, toks := tk } :=
      I.turnedNew (ch := [z, TI, TO, i1, i2]) (fun c o nc e => (sb.2 c (fun y => nc (by simp [y]))).trans (kp c o (fun y => nc (by simp [y])) (fun y => nc (by simp [y])) (fun y => nc (by simp [y])) (fun y => nc (by simp [y])) e)) hf (Nat.le_refl _) made
    refine ⟨.ref s.heap.objs.size, _, I3, rfl, ⟨_, x, y, rfl, I.hok.fresh (Nat.le_refl _), rfl, fun l hl => by rw [I.tuple_inj hl qx]; exact hx, fun l hl => by rw [I.list_inj hl qy]; exact hy⟩, ⟨z3, ?_, ⟨_, _, (sb.2 _ S.TOz).trans O2⟩, s1.1.at fun o e => (sb.2 _ S.zi1.symm).trans e, s2.1.at fun o e => (sb.2 _ S.zi2.symm).trans e⟩, fun c hc => ?_⟩
    · exact (sb.2 _ S.TIz).trans (kp _ _ S.TIz S.TITO S.TIi1 S.TIi2 tI)
    · have lc : c < s.heap.objs.size := by
        rcases mem5 hc with q | q | q | q | q <;> rw [q]
        · exact zl
        · exact Heap.lt_size tI
        · exact Heap.lt_size tO
        · obtain ⟨_, e1, _⟩ := t1; exact Heap.lt_size e1
        · obtain ⟨_, e2, _⟩ := t2; exact Heap.lt_size e2
      rw [upd_ne (Nat.ne_of_lt lc)]
      exact (hf c hc).1
  done := by
    intro X hP hw hK hc i pins s σ H E I hf tn hg
    subst hP hw hK
    obtain ⟨tz, tI, ⟨x0, y0, tO⟩, t1, t2⟩ := tn
    obtain ⟨xs, ys, qx, qy, le1, le2, hend⟩ := hg
    obtain ⟨its, rv, p1, _⟩ := I.tuple qx
    obtain ⟨jts, rw2, p2, _⟩ := I.list qy
    have l1 : s.heap.IsTuple a its.toArray := p1
    have l2 : s.heap.IsList b jts.toArray := p2.isList
    have na : a ≠ i1 := fun e => by
      obtain ⟨_, g1, c1, _⟩ := l1
      obtain ⟨_, g2, c2, _⟩ := t1
      rw [e, g2] at g1
      cases g1
      rw [c1] at c2
      exact absurd (Value.type.inj c2) (by decide)
    have nb : b ≠ i2 := fun e => by
      obtain ⟨_, _, g1, c1, _⟩ := p2
      obtain ⟨_, g2, c2, _⟩ := t2
      rw [e, g2] at g1
      cases g1
      rw [c1] at c2
      exact absurd (Value.type.inj c2) (by decide)
    have hh : X.A.in1.handled = none := I.ok.hd hc
    have n1 : its.toArray.size = xs.length := by have := rv.length; simp; omega
    have n2 : jts.toArray.size = ys.length := by have := rw2.length; simp; omega
    exact wpAny_pyNext_zipD2_end S (Draws.tuple hh i1 a na its.toArray) (Draws.list hh i2 b nb jts.toArray) tz tI tO ⟨t1, l1⟩ ⟨t2, l2⟩ (by omega) (by omega) (by omega) fun h2 tk kp => ⟨rfl, I.turnedL (ch := [z, TI, TO, i1, i2]) (fun c o nc e =>
      kp c o (fun y => nc (by simp [y])) (fun y => nc (by simp [y])) (fun y => nc (by simp [y])) (fun y => nc (by simp [y])) e) hf⟩
  self := fun A i s Q E tn q => wpAny_pyIter_zip tn.1 q
def iZm (K : PySem.W.Frag) (ta : TA) : TI := fun σ H R => ta σ H fun vs H1 => ∃ a b xs ys, vs = [.ref a, .ref b] ∧ SqT K H1 a xs ∧ SqL K H1 b ys ∧ R (Izm K a b) H1
theorem pi_zm {X : Cx} {e e2 : Expr} {ta : TA} {p pos tpos : Pos} {elts : List Expr} {kk : Nat} (hg : Gl X "zip") (hm : X.mg "zip" = none) (ha : PA X [e, e2] ta)
    (hs : starEach [e, e2] X.env = (false, eval e X.env) :: starEach [e2] X.env := by rfl) (hpl : (backTo pos (starEach [e2] X.env)).any (·.1) = false := by rfl) : PI X (.Tuple elts kk tpos) (.Call (.Name "zip" p) [e, e2] [] pos) (iZm X.K ta) := by
  constructor
  intro pins s σ H R I h
  refine Call_ (ld_blt I hg hm PyProof.Rows.boot_zip (PyProof.Rows.callWith_type1 (thn (ha.run pos pins s σ H _ I h) fun us s1 ⟨vs, H1, I1, r1, q1⟩ => ?_) hs hpl))
  obtain ⟨a, b, xs, ys, ev, qx, qy, fin⟩ := q1
  subst ev
  cases r1 with
  | cons ra rr =>
    cases rr with
    | cons rb rr =>
      cases rr
      cases ra
      cases rb
      obtain ⟨its, rv, p1, _⟩ := I1.tuple qx
      obtain ⟨jts, rw2, p2, _⟩ := I1.list qy
      have l1 : s1.heap.IsTuple a its.toArray := p1
      have l2 : s1.heap.IsList b jts.toArray := p2.isList
      have la : a < s1.heap.objs.size := by obtain ⟨_, e1, _⟩ := id l1; exact Heap.lt_size e1
      have lb : b < s1.heap.objs.size := p2.lt
      refine zip_begins2 (begins_tuple a its.toArray) (begins_list b jts.toArray) l1 l2 fun h2 z2 T2 O2 g1 g2 sz2 kp => wpAny_pyIter_zip z2 ?_
      refine ⟨s1.heap.objs.size + 4, [s1.heap.objs.size + 4, s1.heap.objs.size + 2, s1.heap.objs.size + 3, s1.heap.objs.size, s1.heap.objs.size + 1], Tn (s1.heap.objs.size + 4) (s1.heap.objs.size + 2) (s1.heap.objs.size + 3) s1.heap.objs.size (s1.heap.objs.size + 1) a b, _, H1, rfl, I1.kept (t' := s1.toks) kp, turn_zm ?_, ⟨z2, T2, ⟨_, _, O2⟩, ⟨_, g1, rfl, rfl⟩, ⟨_, g2, rfl, rfl⟩⟩, fun c hc => ?_, fin⟩
      · generalize s1.heap.objs.size = n at *
        constructor
        all_goals first
          | exact List.mem_cons_self
          | (intro q; rcases List.mem_cons.mp q with q | q <;> (try rw [List.mem_singleton] at q) <;> (have la' : (a : Nat) < n := la; have lb' : (b : Nat) < n := lb; unfold Addr at *; omega))
          | (intro q; unfold Addr at *; omega)
      · have lc : s1.heap.objs.size ≤ c := by
          rcases mem5 hc with q | q | q | q | q <;> rw [q]
          · exact Nat.le_add_right _ _
          · exact Nat.le_add_right _ _
          · exact Nat.le_add_right _ _
          · exact Nat.le_refl _
          · exact Nat.le_add_right _ _
        exact I1.fpOk lc (I1.hok.fresh lc)
end ZpM

set_option Elab.async false
set_option linter.all false
set_option maxRecDepth 100000
set_option maxHeartbeats 4000000
namespace Gait
open PySem PySem.Spec PyProof.Rows L2
section
variable {X : Cx}
/-- // by any divisor but 0 -/
def CDivA (_ j : Int) : Prop := j ≠ 0 ∧ j.natAbs.log2 < 9000
theorem op_fdivA : OpR X (binaryOp .FloorDiv) (rI CDivA fun i j => .int (i.fdiv j)) := opI fun _ _ _ _ _ _ _ hc w => floordiv_int hc.1 w (.inl (PyProof.noPylong_of_log2 hc.2))
end
/-- what stood stands, but for what stands at r -/
def Kp (r : Addr) (H H' : Hp) : Prop := (∀ b o, b ≠ r → H b = some o → H' b = some o) ∧ ∀ c l, H r = some (.lst (.ref c :: l)) → ∃ l', H' r = some (.lst (.ref c :: l'))
theorem Kp.refl {r : Addr} {H : Hp} : Kp r H H := ⟨fun _ _ _ h => h, fun _ l h => ⟨l, h⟩⟩
theorem Kp.trans {r : Addr} {H H1 H2 : Hp} (a : Kp r H H1) (b : Kp r H1 H2) : Kp r H H2 := ⟨fun c o n h => b.1 c o n (a.1 c o n h), fun c l h => by
  obtain ⟨l1, h1⟩ := a.2 c l h
  exact b.2 c l1 h1⟩
theorem Kp.of {r : Addr} {H H' : Hp} (s : Same H H') : Kp r H H' := ⟨fun b o _ h => s b o h, fun _ l h => ⟨l, s _ _ h⟩⟩
theorem Kp.at {r c : Addr} {H : Hp} {l l' : List V} (e : H r = some (.lst (.ref c :: l))) : Kp r H (upd H r (.lst (.ref c :: l'))) := ⟨fun b u n h => by rw [upd_ne n]; exact h, fun d m h => by
  rw [e] at h
  cases h
  exact ⟨l', upd_same⟩⟩
theorem Kp.rd {r x : Addr} {H H' : Hp} {u : HO} (k : Kp r H H') (n : x ≠ r) (h : Rd H x u) : Rd H' x u := by
  rcases h with h | ⟨o, h⟩
  · exact .inl (k.1 _ _ n h)
  · exact .inr ⟨o, k.1 _ _ n h⟩
theorem Kp.L {K : PySem.W.Frag} {r x : Addr} {H H' : Hp} {xs : List V} (k : Kp r H H') (n : x ≠ r) (h : SqL K H x xs) : SqL K H' x xs := by
  rcases h with h | h
  · exact .inl (k.rd n h)
  · exact .inr h
theorem Kp.T {K : PySem.W.Frag} {r x : Addr} {H H' : Hp} {xs : List V} (k : Kp r H H') (n : x ≠ r) (h : SqT K H x xs) : SqT K H' x xs := by
  rcases h with h | h
  · exact .inl (k.rd n h)
  · exact .inr h
theorem Same.T {K : PySem.W.Frag} {x : Addr} {H H' : Hp} {xs : List V} (k : Same H H') (h : SqT K H x xs) : SqT K H' x xs := by
  rcases h with (h | ⟨o, h⟩) | h
  · exact .inl (.inl (k _ _ h))
  · exact .inl (.inr ⟨o, k _ _ h⟩)
  · exact .inr h
theorem Same.new {H : Hp} {p : Addr} {o : HO} (h : H p = none) : Same H (upd H p o) := fun b x e => by
  rw [upd_ne (ne_of_none e h)]
  exact e
theorem some_ne_none {H : Hp} {p q : Addr} {o : HO} (h : H p = some o) (n : H q = none) : p ≠ q := ne_of_none h n
/-- the law's source of numbers at r -/
structure RgS (H : Hp) (r c : Addr) (ns : List Int) (i x k : Int) : Prop where
  hr : H r = some (.lst [.ref c, .int i, .int x, .int k])
  hc : H c = some (.lst (ns.map V.int))
  i0 : 0 ≤ i
  i1 : i ≤ (ns.length : Int)
  x0 : 0 ≤ x
  k0 : 0 ≤ k
  k1 : k < 2147483563
theorem RgS.ne {H : Hp} {r c : Addr} {ns : List Int} {i x k : Int} (R : RgS H r c ns i x k) : c ≠ r := by
  refine ne_of R.hc R.hr fun z => ?_
  cases ns with
  | nil => cases z
  | cons m l => cases z
theorem RgS.set {H : Hp} {r c : Addr} {ns : List Int} {i x k i' x' k' : Int} (R : RgS H r c ns i x k) (i0 : 0 ≤ i') (i1 : i' ≤ (ns.length : Int)) (x0 : 0 ≤ x') (k0 : 0 ≤ k') (k1 : k' < 2147483563) : RgS (upd H r (.lst [.ref c, .int i', .int x', .int k'])) r c ns i' x' k' :=
  ⟨upd_same, by rw [upd_ne R.ne]; exact R.hc, i0, i1, x0, k0, k1⟩
def Rg (H : Hp) (r : Addr) : Prop := ∃ c ns i x k, RgS H r c ns i x k
theorem Rg.same {H H' : Hp} {r : Addr} (R : Rg H r) (s : Same H H') : Rg H' r := by
  obtain ⟨c, ns, i, x, k, R⟩ := R
  exact ⟨c, ns, i, x, k, s _ _ R.hr, s _ _ R.hc, R.i0, R.i1, R.x0, R.k0, R.k1⟩
theorem Rg.some {H : Hp} {r : Addr} (R : Rg H r) : ∃ o, H r = some o := by
  obtain ⟨c, ns, i, x, k, R⟩ := R
  exact ⟨_, R.hr⟩
theorem Rg.ne {H : Hp} {r p : Addr} (R : Rg H r) (h : H p = none) : p ≠ r := by
  obtain ⟨o, e⟩ := R.some
  exact (ne_of_none e h).symm
/-- what is new at H2 may be written later -/
theorem Rg.put {H2 H5 : Hp} {r D : Addr} {o : HO} (R2 : Rg H2 r) (nD : H2 D = none) (k : Kp r H2 H5) (R5 : Rg H5 r) : Rg (upd H5 D o) r := by
  have Dr : D ≠ r := R2.ne nD
  obtain ⟨c2, n2, i2, x2, k2, R2⟩ := R2
  obtain ⟨c, ns, i, x, kk, R⟩ := R5
  obtain ⟨l', e⟩ := k.2 _ _ R2.hr
  rw [R.hr] at e
  cases e
  exact ⟨c2, ns, i, x, kk, by rw [upd_ne Dr.symm]; exact R.hr, by rw [upd_ne (ne_of_none R2.hc nD)]; exact R.hc, R.i0, R.i1, R.x0, R.k0, R.k1⟩
theorem Kp.put {H H2 H5 : Hp} {r D : Addr} {o : HO} (nD : H2 D = none) (Dr : D ≠ r) (k : Kp r H2 H5) : Kp r H2 (upd H5 D o) := ⟨fun b u nb e => by
  rw [upd_ne (ne_of_none e nD)]
  exact k.1 _ _ nb e, fun c l e => by
  obtain ⟨l', e'⟩ := k.2 c l e
  exact ⟨l', by rw [upd_ne Dr.symm]; exact e'⟩⟩
theorem sz {n : Nat} (h : n ≤ 100000) : n ≤ sizeLine := Nat.le_trans h (by decide)
theorem szl {n : Nat} (h : n < 100000) : n < sizeLine := Nat.lt_of_lt_of_le h (by decide)
theorem gcd_step {a b : Int} (h0 : 0 ≤ a) (hb : 0 ≤ b) : Int.gcd b (a % b) = Int.gcd a b := by
  rw [Int.gcd_eq_natAbs_gcd_natAbs, Int.gcd_eq_natAbs_gcd_natAbs, Int.natAbs_emod_of_nonneg h0, Nat.gcd_comm a.natAbs b.natAbs, Nat.gcd_rec b.natAbs a.natAbs, Nat.gcd_comm]
/-- a fraction in lowest terms -/
def red (n d : Int) : Int × Int := ((if d > 0 then 1 else -1) * n / (Int.gcd n d : Int), (if d > 0 then 1 else -1) * d / (Int.gcd n d : Int))
theorem gcd_posI {n d : Int} (hd : d ≠ 0) : (0 : Int) < (Int.gcd n d : Int) := by
  have : 0 < Int.gcd n d := Int.gcd_pos_of_ne_zero_right n hd
  omega
theorem sgn_cases (d : Int) : ((if d > 0 then (1 : Int) else -1) = 1 ∧ d > 0) ∨ ((if d > 0 then (1 : Int) else -1) = -1 ∧ ¬ d > 0) := by
  by_cases h : d > 0
  · exact .inl ⟨if_pos h, h⟩
  · exact .inr ⟨if_neg h, h⟩
theorem red_parts {n d : Int} (hd : d ≠ 0) : ∃ s g a b : Int, (s = 1 ∨ s = -1) ∧ 0 < g ∧ g = (Int.gcd n d : Int) ∧ s * n = g * a ∧ s * d = g * b ∧ 0 < b ∧ red n d = (a, b) ∧ Int.gcd a b = 1 := by
  have g0 := gcd_posI (n := n) hd
  obtain ⟨u, hu⟩ := Int.gcd_dvd_left n d
  obtain ⟨v, hv⟩ := Int.gcd_dvd_right n d
  have hg : Int.gcd u v = 1 := by
    have h1 : Int.gcd n d = (Int.gcd n d) * Int.gcd u v := by
      have e := Int.gcd_mul_left (Int.gcd n d : Int) u v
      rw [← hu, ← hv] at e
      simpa using e
    have h2 : 0 < Int.gcd n d := by omega
    have h3 : Int.gcd n d * 1 = Int.gcd n d * Int.gcd u v := by omega
    exact (Nat.eq_of_mul_eq_mul_left h2 h3).symm
  generalize hG : (Int.gcd n d : Int) = g at *
  have key : ∀ s : Int, (s = 1 ∨ s = -1) → Int.gcd (s * u) (s * v) = 1 := by
    intro s hs
    rcases hs with rfl | rfl
    · simpa using hg
    · simpa using hg
  have div : ∀ s w x : Int, x = g * w → s * x / g = s * w := by
    intro s w x e
    rw [e, show s * (g * w) = g * (s * w) by rw [← Int.mul_assoc, Int.mul_comm s g, Int.mul_assoc]]
    exact Int.mul_ediv_cancel_left _ (by omega)
  rcases sgn_cases d with ⟨e, h⟩ | ⟨e, h⟩
  · refine ⟨1, g, 1 * u, 1 * v, .inl rfl, g0, rfl, ?_, ?_, ?_, ?_, key 1 (.inl rfl)⟩
    · rw [hu]; simp
    · rw [hv]; simp
    · have : 0 < g * v := by omega
      have := Int.pos_of_mul_pos_right this (by omega)
      omega
    · unfold red
      rw [e, hG, div 1 u n hu, div 1 v d hv]
  · refine ⟨-1, g, -1 * u, -1 * v, .inr rfl, g0, rfl, ?_, ?_, ?_, ?_, key (-1) (.inr rfl)⟩
    · rw [hu]; simp [Int.mul_neg]
    · rw [hv]; simp [Int.mul_neg]
    · have h4 : 0 < g * (-v) := by
        rw [Int.mul_neg]
        omega
      have := Int.pos_of_mul_pos_right h4 (by omega)
      omega
    · unfold red
      rw [e, hG, div (-1) u n hu, div (-1) v d hv]
theorem red_pos {n d : Int} (hd : d ≠ 0) : 0 < (red n d).2 := by
  obtain ⟨s, g, a, b, _, _, _, _, _, hb, e, _⟩ := red_parts (n := n) hd
  rw [e]; exact hb
theorem red_gcd {n d : Int} (hd : d ≠ 0) : Int.gcd (red n d).1 (red n d).2 = 1 := by
  obtain ⟨s, g, a, b, _, _, _, _, _, hb, e, hg⟩ := red_parts (n := n) hd
  rw [e]; exact hg
theorem red_eq {n d : Int} (hd : d ≠ 0) : (red n d).1 * d = n * (red n d).2 := by
  obtain ⟨s, g, a, b, hs, g0, _, h1, h2, hb, e, hg⟩ := red_parts (n := n) hd
  rw [e]
  show a * d = n * b
  have hs2 : s ≠ 0 := by omega
  apply Int.eq_of_mul_eq_mul_left (a := s * g) (by
    intro z
    rcases Int.mul_eq_zero.mp z with z | z <;> omega)
  calc s * g * (a * d) = (g * a) * (s * d) := by simp only [Int.mul_assoc, Int.mul_comm, Int.mul_left_comm]
    _ = (s * n) * (g * b) := by rw [h1, h2]
    _ = s * g * (n * b) := by simp only [Int.mul_assoc, Int.mul_comm, Int.mul_left_comm]
theorem natAbs_sgn {s n : Int} (hs : s = 1 ∨ s = -1) : (s * n).natAbs = n.natAbs := by
  rcases hs with rfl | rfl
  · simp
  · simp
theorem red_le1 {n d : Int} (hd : d ≠ 0) : (red n d).1.natAbs ≤ n.natAbs := by
  obtain ⟨s, g, a, b, hs, g0, _, h1, h2, hb, e, hg⟩ := red_parts (n := n) hd
  rw [e, ← natAbs_sgn (n := n) hs, h1, Int.natAbs_mul]
  exact Nat.le_mul_of_pos_left _ (by omega)
theorem red_le2 {n d : Int} (hd : d ≠ 0) : (red n d).2.natAbs ≤ d.natAbs := by
  obtain ⟨s, g, a, b, hs, g0, _, h1, h2, hb, e, hg⟩ := red_parts (n := n) hd
  rw [e, ← natAbs_sgn (n := d) hs, h2, Int.natAbs_mul]
  exact Nat.le_mul_of_pos_left _ (by omega)
theorem dvd_cop {x y z : Int} (h : x ∣ y * z) (g : Int.gcd x z = 1) : x ∣ y := by
  rw [← Int.natAbs_dvd_natAbs, Int.natAbs_mul] at h
  rw [← Int.natAbs_dvd_natAbs]
  exact Nat.Coprime.dvd_of_dvd_mul_right g h
theorem low_unique {a b c e : Int} (hb : 0 < b) (he : 0 < e) (g1 : Int.gcd a b = 1) (g2 : Int.gcd c e = 1) (h : a * e = c * b) : a = c ∧ b = e := by
  have d1 : b ∣ e := by
    have : b ∣ e * a := ⟨c, by rw [Int.mul_comm e a, h, Int.mul_comm]⟩
    exact dvd_cop this (by rw [Int.gcd_comm]; exact g1)
  have d2 : e ∣ b := by
    have : e ∣ b * c := ⟨a, by rw [Int.mul_comm b c, ← h, Int.mul_comm]⟩
    exact dvd_cop this (by rw [Int.gcd_comm]; exact g2)
  have hbe : b = e := Int.dvd_antisymm (by omega) (by omega) d1 d2
  subst hbe
  exact ⟨Int.eq_of_mul_eq_mul_right (by omega) h, rfl⟩
theorem red_unique {n d a b : Int} (hd : d ≠ 0) (hb : 0 < b) (g : Int.gcd a b = 1) (h : a * d = n * b) : red n d = (a, b) := by
  have h1 := red_eq (n := n) hd
  have h2 : (red n d).1 * b = a * (red n d).2 := by
    apply Int.eq_of_mul_eq_mul_right hd
    calc (red n d).1 * b * d = ((red n d).1 * d) * b := by simp only [Int.mul_assoc, Int.mul_comm, Int.mul_left_comm]
      _ = (n * b) * (red n d).2 := by rw [h1]; simp only [Int.mul_assoc, Int.mul_comm, Int.mul_left_comm]
      _ = a * (red n d).2 * d := by rw [← h]; simp only [Int.mul_assoc, Int.mul_comm, Int.mul_left_comm]
  obtain ⟨e1, e2⟩ := low_unique (red_pos (n := n) hd) hb (red_gcd hd) g h2
  exact Prod.ext e1 e2
theorem red_self {n d : Int} (hd : 0 < d) (g : Int.gcd n d = 1) : red n d = (n, d) := red_unique (by omega) hd g rfl

/-- the fraction n / d, as a tuple -/
def Fr (K : PySem.W.Frag) (H : Hp) (v : V) (n d : Int) : Prop := ∃ p, v = .ref p ∧ SqT K H p [.int n, .int d]
theorem RgT {K : PySem.W.Frag} {H H' : Hp} {r p : Addr} {xs : List V} (R : Rg H r) (k : Kp r H H') (h : SqT K H p xs) : SqT K H' p xs := by
  obtain ⟨c, ns, i, x, kk, R⟩ := R
  rcases h with (h | ⟨o, h⟩) | h
  · exact .inl (.inl (k.1 _ _ (ne_of h R.hr (fun z => by cases z)) h))
  · exact .inl (.inr ⟨o, k.1 _ _ (ne_of h R.hr (fun z => by cases z)) h⟩)
  · exact .inr h
theorem Fr.kp {K : PySem.W.Frag} {H H' : Hp} {r : Addr} {v : V} {n d : Int} (f : Fr K H v n d) (R : Rg H r) (k : Kp r H H') : Fr K H' v n d := by
  obtain ⟨p, e, h⟩ := f
  exact ⟨p, e, RgT R k h⟩
theorem Fr.same {K : PySem.W.Frag} {H H' : Hp} {v : V} {n d : Int} (f : Fr K H v n d) (k : Same H H') : Fr K H' v n d := by
  obtain ⟨p, e, h⟩ := f
  exact ⟨p, e, Same.T k h⟩
theorem Fr.new {K : PySem.W.Frag} {H : Hp} {p : Addr} {n d : Int} : Fr K (upd H p (.tup [.int n, .int d])) (.ref p) n d := ⟨p, rfl, SqT.of upd_same⟩
/-- a fraction of the law's own: lowest terms, its size -/
structure FrB (K : PySem.W.Frag) (H : Hp) (v : V) (n d : Int) (B : Nat) : Prop where
  fr : Fr K H v n d
  d0 : 0 < d
  g : Int.gcd n d = 1
  nB : n.natAbs < 2 ^ B
  dB : d.natAbs < 2 ^ B
theorem FrB.kp {K : PySem.W.Frag} {H H' : Hp} {r : Addr} {v : V} {n d : Int} {B : Nat} (f : FrB K H v n d B) (R : Rg H r) (k : Kp r H H') : FrB K H' v n d B := ⟨f.fr.kp R k, f.d0, f.g, f.nB, f.dB⟩
theorem FrB.same {K : PySem.W.Frag} {H H' : Hp} {v : V} {n d : Int} {B : Nat} (f : FrB K H v n d B) (k : Same H H') : FrB K H' v n d B := ⟨f.fr.same k, f.d0, f.g, f.nB, f.dB⟩
theorem red_B {K : PySem.W.Frag} {H : Hp} {p : Addr} {n d : Int} {B : Nat} (hd : d ≠ 0) (h1 : n.natAbs < 2 ^ B) (h2 : d.natAbs < 2 ^ B) : FrB K (upd H p (.tup [.int (red n d).1, .int (red n d).2])) (.ref p) (red n d).1 (red n d).2 B :=
  ⟨Fr.new, red_pos hd, red_gcd hd, Nat.lt_of_le_of_lt (red_le1 hd) h1, Nat.lt_of_le_of_lt (red_le2 hd) h2⟩
theorem log2_lt {j : Int} {b : Nat} (hb : j.natAbs < 2 ^ b) (h0 : 0 < b) (h9 : b ≤ 9000) : j.natAbs.log2 < 9000 := Nat.lt_of_lt_of_le (PySem.Flt.log2_lt_of h0 hb) h9
/-! ### equal data -/
def atom : V → Bool
  | .non => true | .bl _ => true | .int _ => true | .str _ => true | _ => false
def Eqd (K : PySem.W.Frag) (H : Hp) : Nat → V → V → Prop
  | 0, x, y => x = y ∧ atom x = true
  | n + 1, x, y => (x = y ∧ atom x = true) ∨ ∃ a b xs ys, x = .ref a ∧ y = .ref b ∧ ((SqL K H a xs ∧ SqL K H b ys) ∨ (SqT K H a xs ∧ SqT K H b ys)) ∧ xs.length = ys.length ∧ xs.length ≤ 100000 ∧ ∀ (i : Nat) u v, xs[i]? = some u → ys[i]? = some v → Eqd K H n u v
theorem Eqd.same {K : PySem.W.Frag} {H H' : Hp} (s : Same H H') : ∀ {n : Nat} {x y : V}, Eqd K H n x y → Eqd K H' n x y
  | 0, _, _, h => h
  | n + 1, _, _, .inl h => .inl h
  | n + 1, _, _, .inr ⟨a, b, xs, ys, e1, e2, h, l, l2, k⟩ => .inr ⟨a, b, xs, ys, e1, e2, h.elim (fun z => .inl ⟨s.seq z.1, s.seq z.2⟩) (fun z => .inr ⟨Same.T s z.1, Same.T s z.2⟩), l, l2, fun i u v hu hv => Eqd.same s (k i u v hu hv)⟩
theorem Eqd.up {K : PySem.W.Frag} {H : Hp} : ∀ {n : Nat} {x y : V}, Eqd K H n x y → Eqd K H (n + 1) x y
  | 0, _, _, h => .inl h
  | n + 1, _, _, .inl h => .inl h
  | n + 1, _, _, .inr ⟨a, b, xs, ys, e1, e2, h, l, l2, k⟩ => .inr ⟨a, b, xs, ys, e1, e2, h, l, l2, fun i u v hu hv => Eqd.up (k i u v hu hv)⟩
theorem Eqd.mono {K : PySem.W.Frag} {H : Hp} {n m : Nat} {x y : V} (h : Eqd K H n x y) (l : n ≤ m) : Eqd K H m x y := by
  induction l with
  | refl => exact h
  | step _ ih => exact ih.up
theorem Eqd.atom {K : PySem.W.Frag} {H : Hp} {n : Nat} {x : V} (h : atom x = true) : Eqd K H n x x := by
  cases n with
  | zero => exact ⟨rfl, h⟩
  | succ n => exact .inl ⟨rfl, h⟩
theorem all2_nil {R : V → V → Prop} : ∀ (i : Nat) u v, ([] : List V)[i]? = some u → ([] : List V)[i]? = some v → R u v := fun i u v h => by cases h
theorem all2_cons {R : V → V → Prop} {x y : V} {xs ys : List V} (h : R x y) (k : ∀ (i : Nat) u v, xs[i]? = some u → ys[i]? = some v → R u v) : ∀ (i : Nat) u v, (x :: xs)[i]? = some u → (y :: ys)[i]? = some v → R u v
  | 0, u, v, h1, h2 => by cases h1; cases h2; exact h
  | i + 1, u, v, h1, h2 => k i u v h1 h2
theorem Eqd.lst {K : PySem.W.Frag} {H : Hp} {n : Nat} {a b : Addr} {xs ys : List V} (h1 : SqL K H a xs) (h2 : SqL K H b ys) (l : xs.length = ys.length) (l2 : xs.length ≤ 100000) (k : ∀ (i : Nat) u v, xs[i]? = some u → ys[i]? = some v → Eqd K H n u v) : Eqd K H (n + 1) (.ref a) (.ref b) :=
  .inr ⟨a, b, xs, ys, rfl, rfl, .inl ⟨h1, h2⟩, l, l2, k⟩
theorem Eqd.tup {K : PySem.W.Frag} {H : Hp} {n : Nat} {a b : Addr} {xs ys : List V} (h1 : SqT K H a xs) (h2 : SqT K H b ys) (l : xs.length = ys.length) (l2 : xs.length ≤ 100000) (k : ∀ (i : Nat) u v, xs[i]? = some u → ys[i]? = some v → Eqd K H n u v) : Eqd K H (n + 1) (.ref a) (.ref b) :=
  .inr ⟨a, b, xs, ys, rfl, rfl, .inr ⟨h1, h2⟩, l, l2, k⟩
theorem tyL {K : PySem.W.Frag} {H : Hp} {a : Addr} {xs : List V} (h : SqL K H a xs) : TyX K H (.ref a) (.type "list") := by
  rcases h with (h | ⟨o, h⟩) | ⟨o, its, n, h, c, _⟩
  · exact .base (.lst h)
  · exact .base (.frz h)
  · exact .kList h c
theorem tyT {K : PySem.W.Frag} {H : Hp} {a : Addr} {xs : List V} (h : SqT K H a xs) : TyX K H (.ref a) (.type "tuple") := by
  rcases h with (h | ⟨o, h⟩) | ⟨o, its, n, h, c, _⟩
  · exact .base (.tup h)
  · exact .fTuple h
  · exact .kTuple h c
theorem rd_isi {K : PySem.W.Frag} {H : Hp} {x : V} {t c : String} {b : Bool} {Q : VK} (ty : TyX K H x (.type t)) (h : kitB t c = some b) (w : Q (.bl b) H) : rIsi K [x, .ty c] H Q := ⟨x, .ty c, .type t, .type c, b, rfl, .ty c, ty, kit_ty h, w⟩
theorem ifF {c : Bool} {A B : Prop} (hc : c = false) (h : B) : if c = true then A else B := by rw [hc, if_neg Bool.false_ne_true]; exact h
theorem ifT {c : Bool} {A B : Prop} (hc : c = true) (h : A) : if c = true then A else B := by rw [if_pos hc]; exact h
theorem fn_false {P : Program} {w : World} {K : PySem.W.Frag} {mg : Str → Option Value} {base : Heap} {CX : CXT} {k : Nat} {f : Addr} {fd : FuncData} {ps : List Str} : FnOk P w K mg base CX k f fd ps (fun _ _ _ _ => False) :=
  ⟨fun _ _ _ _ h => h.elim, fun _ _ _ _ _ _ _ _ _ _ _ _ _ h => h.elim⟩
theorem tYes_if {σ : L2.St} {H : Hp} {A B : Hp → Prop} (h : A H) : tYes σ H fun b H3 => if b = true then A H3 else B H3 := by
  show (if true = true then A H else B H)
  rw [if_pos rfl]
  exact h
/-! ### f(k = v, ..), nothing by position -/
def tCallN0 (m : Nat) (sp : Sp) (gV : List V → List V → List V) (E : XK) (tk : TA) : TE := fun σ H Q => tk σ H fun zs H2 => zs.length = m ∧ sp (gV [] zs) H2 Q E
theorem pe_callN0 {X : Cx} {CX : CXT} {k : Nat} {f : Addr} {fd : FuncData} {ps ks : List Str} {sp : Sp} {E : XK} {x : Str} {p pos : Pos} {kws : List Keyword} {tk : TA} {g : List Value → List Value → List Value} {gV : List V → List V → List V}
    (F : FnOk X.prog X.w X.K X.mg X.base CX k f fd ps sp) (hr : Room k X.A) (hg : Gl X x) (hm : X.mg x = some (.ref f)) (hk : PySem.W.keepIn X.K (.ref f) = true) (hb : KBn X.K fd ps 0 ks g gV) (hx : Passes CX X E)
    (hkw : PK X kws tk) (hall : (backToKw pos (keywordEach kws X.env)).all (·.1.isSome) = true := by rfl) (hks : (backToKw pos (keywordEach kws X.env)).filterMap (·.1) = ks := by rfl)
    (hdb : (x == ("__debug__" : Str)) = false := by decide) (hpl : ((backTo pos (starEach [] X.env)).any (·.1) || (backToKw pos (keywordEach kws X.env)).any (·.1.isNone)) = false := by rfl) :
    PE X (.Call (.Name x p) [] kws pos) (tCallN0 ks.length sp gV E tk) := by
  refine ⟨fun pins s σ H Q I h => ?_⟩
  refine wpAny_Call_Name_kw (ld_glob I hg hm ?_ hdb)
  refine PySem.W.callWith_KW0 (h₀ := X.base) I.ok.mod.kin hk hall (thn (hkw.run pos pins s σ H _ I h) fun ws s2 ⟨zs, H2, I2, rz, l2, q2⟩ => ⟨I2.kIn, ?_⟩) hpl
  rw [hks]
  exact run_fnN (us := []) (vs := []) F hr hb hx I2 .nil rz rfl l2 q2
theorem FunD.ok0 {P : Program} {w : World} {K : PySem.W.Frag} {mg : Str → Option Value} {base : Heap} {x qual : Str} {params : Arguments} {body : List Stmt} {scope : Scope} {dvs : List V} {kws : List (Str × V)} {f : Addr} {fd : FuncData} {N ps : List Str} {k : Nat} {sp : Sp}
    (F : FunD K x qual params body scope dvs kws f fd) (S : FnScope N ps scope) (len : ∀ vs H Q E, sp vs H Q E → vs.length = ps.length)
    (hbody : ∀ (cdv : Value) (A : Around) (outer : List Env) (s : Shared) (H : Hp) (vs : List V) (Q : VK) (E : XK), Room k (A.deeper (envOfC qual scope s.heap.objs.size f cdv)) → sp vs H Q E →
      ∃ t, PSs (cxOf CX0 P w K mg base N qual scope f cdv A outer s H E).nox body t ∧ t { nx := fun _ H' => Q .non H', rt := Q } (start N vs) H) : FnOk P w K mg base CX0 (k + 1) f fd ps sp :=
  F.ok S len fun cdv A outer s H vs Q E hr h => by
    obtain ⟨t, a, b⟩ := hbody cdv A outer s H vs Q E hr h
    exact ⟨t, a.nox, b⟩
theorem u65 {k : Nat} {A : Around} (r : Room k A) : A.units + 65 < cLine := by have := r.un; omega
theorem u2 {k : Nat} {A : Around} (r : Room k A) : A.units + 1 < cLine := by have := r.un; omega
theorem ixT {X : Cx} {K : PySem.W.Frag} (h : X.K = K) : IxR X (rIxT K) := by subst h; exact ix_tup
theorem ixL {X : Cx} {K : PySem.W.Frag} (h : X.K = K) : IxR X (rIxL K) := by subst h; exact ix_list
theorem ixS {X : Cx} {K : PySem.W.Frag} (h : X.K = K) : IxR X (rIx K) := by subst h; exact ix_seq
theorem crSumK {X : Cx} {K : PySem.W.Frag} (hc : X.calm = true) (h : X.K = K) : CallR X (.builtin "sum") (rSum K) := by subst h; exact cr_sum hc
theorem callLenK {X : Cx} {K : PySem.W.Frag} (h : X.K = K) : CallR X (.builtin "len") (fun xs H Q => ∃ x n, xs = [x] ∧ LenV K x H n ∧ Q (.int n) H) := by subst h; exact call_len
theorem go_name {i : Nat} {v : V} {σ : L2.St} {H : Hp} {Q : L2.St → Hp → Prop} (h : Q (σ.set i (some v)) H) : gName i v σ H Q := h
theorem go_next {D : Ends} {σ : L2.St} {H : Hp} (h : D.nx σ H) : tNext D σ H := h
theorem go_seq {t u : TS} {D : Ends} {σ : L2.St} {H : Hp} (h : t { D with nx := u D } σ H) : tSeq t u D σ H := h
theorem go_asg {te : TE} {g : TG} {D : Ends} {σ : L2.St} {H : Hp} (h : te σ H fun x H1 => g x σ H1 D.nx) : tAsg te g D σ H := h
theorem both {te : TE} {σ : L2.St} {H : Hp} {Q : VK} (F : V → Hp → Prop) (main : ∀ v H', F v H' → Q v H') (step : ∀ Q' : VK, (∀ v H', F v H' → Q' v H') → te σ H Q') : te σ H Q := step Q main
theorem piLK {X : Cx} {K : PySem.W.Frag} {tg e : Expr} {t : TE} (h : X.K = K) (he : PE X e t) : PI X tg e (iList K t) := by subst h; exact pi_list he
theorem piTK {X : Cx} {K : PySem.W.Frag} {tg e : Expr} {t : TE} (h : X.K = K) (he : PE X e t) : PI X tg e (iTup K t) := by subst h; exact pi_tup he

theorem pss_absurd {X : Cx} {b : List Stmt} : PSs X b (fun _ _ _ => False) := ⟨fun _ _ _ _ _ _ h => h.elim⟩
theorem takesN {X : Cx} : L2N.Takes X (fun _ _ _ _ => False) := fun _ _ x => by
  obtain ⟨_, _, _, _, _, _, _, _, _, _, _, _, _, _, _, _, z⟩ := x
  exact z.elim
theorem taker_of {K : PySem.W.Frag} {C : Addr} {f : Str} (h : PySem.W.findIn K (.ref C) f = some none) : PySem.W.takerIn K C f = some none := by
  unfold PySem.W.takerIn
  rw [h]
  rfl
/-- behind C(..): what stood stands -/
theorem Same.made {H : Hp} {x d : Addr} {C : Addr} {o1 : HO} {o2 : HO} {o3 : HO} {fs : List (Str × V)} (nx : H x = none) (nd : H d = none) : Same H (upd (del (upd (upd (upd H x o1) d o2) x o3) x) d (.xd fs)) := fun b o e => by
  have h1 := ne_of_none e nx
  have h2 := ne_of_none e nd
  rw [upd_ne h2, del_ne h1, upd_ne h1, upd_ne h2, upd_ne h1]
  exact e
theorem em2 {K : PySem.W.Frag} {cls c1 c2 : Value} {b1 b2 : Bool} (h1 : PySem.W.exmOne K cls c1 = some b1) (h2 : PySem.W.exmOne K cls c2 = some b2) : PySem.W.exmAny K cls [c1, c2] = some (b1 || (b2 || false)) := by
  unfold PySem.W.exmAny PySem.W.exmAny PySem.W.exmAny
  rw [h1, h2]
/-! ### the tables of code objects -/
theorem ExtN.L {K : PySem.W.Frag} {H H' : Hp} {x : Addr} {xs : List V} (k : LamX.ExtN H H') (h : SqL K H x xs) : SqL K H' x xs := by
  rcases h with (h | ⟨o, h⟩) | h
  · exact .inl (.inl (k _ _ h (fun ps z => by cases z)))
  · exact .inl (.inr ⟨o, k _ _ h (fun ps z => by cases z)⟩)
  · exact .inr h
theorem ExtN.T {K : PySem.W.Frag} {H H' : Hp} {x : Addr} {xs : List V} (k : LamX.ExtN H H') (h : SqT K H x xs) : SqT K H' x xs := by
  rcases h with (h | ⟨o, h⟩) | h
  · exact .inl (.inl (k _ _ h (fun ps z => by cases z)))
  · exact .inl (.inr ⟨o, k _ _ h (fun ps z => by cases z)⟩)
  · exact .inr h
theorem ExtN.rg {H H' : Hp} {r : Addr} (k : LamX.ExtN H H') (R : Rg H r) : Rg H' r := by
  obtain ⟨c, ns, i, x, kk, R⟩ := R
  exact ⟨c, ns, i, x, kk, k _ _ R.hr (fun ps z => by cases z), k _ _ R.hc (fun ps z => by cases z), R.i0, R.i1, R.x0, R.k0, R.k1⟩
theorem ExtN.fr {K : PySem.W.Frag} {H H' : Hp} {v : V} {n d : Int} (k : LamX.ExtN H H') (f : Fr K H v n d) : Fr K H' v n d := by
  obtain ⟨p, e, h⟩ := f
  exact ⟨p, e, ExtN.T k h⟩
theorem Tabs.kp {T : List (Addr × Str)} {H H' : Hp} {r : Addr} (t : LamX.Tabs T H) (R : Rg H r) (k : Kp r H H') : LamX.Tabs T H' := fun p hp => by
  obtain ⟨c, ns, i, x, kk, R⟩ := R
  obtain ⟨ps, h1, h2, h3⟩ := t p hp
  refine ⟨ps, k.1 _ _ (ne_of h1 R.hr (fun z => by cases z)) h1, h2, fun pos cv hc => ?_⟩
  obtain ⟨c2, e1, e2⟩ := h3 pos cv hc
  exact ⟨c2, e1, k.1 _ _ (ne_of e2 R.hr (fun z => by unfold LamX.CodeO at z; cases z)) e2⟩
theorem Tabs.same {T : List (Addr × Str)} {H H' : Hp} (t : LamX.Tabs T H) (s : Same H H') : LamX.Tabs T H' := t.ext s
theorem Eqd.tup3 {K : PySem.W.Frag} {H : Hp} {n : Nat} {p q : Addr} {x1 x2 x3 y1 y2 y3 : V} (h1 : SqT K H p [x1, x2, x3]) (h2 : SqT K H q [y1, y2, y3]) (e1 : Eqd K H n x1 y1) (e2 : Eqd K H n x2 y2) (e3 : Eqd K H n x3 y3) : Eqd K H (n + 1) (.ref p) (.ref q) :=
  Eqd.tup h1 h2 rfl (by show 3 ≤ 100000; decide) (all2_cons e1 (all2_cons e2 (all2_cons e3 all2_nil)))
theorem Eqd.fr1 {K : PySem.W.Frag} {H : Hp} {v u : V} {n d : Int} (a : Fr K H v n d) (b : Fr K H u n d) : Eqd K H 1 v u := by
  obtain ⟨p, rfl, hp⟩ := a
  obtain ⟨q, rfl, hq⟩ := b
  exact Eqd.tup (n := 0) hp hq rfl (by show 2 ≤ 100000; decide) (all2_cons (Eqd.atom rfl) (all2_cons (Eqd.atom rfl) all2_nil))
/-- what is expected of a call that may raise ZeroDenominator: z tells that it does, f its answer else -/
def ExpQ (K : PySem.W.Frag) (H : Hp) (z : Prop) (f : Int × Int) (ev : V) : Prop := ∃ e, ev = .ref e ∧ ((z ∧ SqT K H e [.non, .str "ZeroDenominator", .non]) ∨ (¬ z ∧ ∃ u, SqT K H e [u, .str "", .non] ∧ Fr K H u f.1 f.2))
theorem ExpQ.same {K : PySem.W.Frag} {H H' : Hp} {z : Prop} {f : Int × Int} {ev : V} (h : ExpQ K H z f ev) (s : Same H H') : ExpQ K H' z f ev := by
  obtain ⟨e, rfl, ⟨hz, h⟩ | ⟨hz, u, h1, h2⟩⟩ := h
  · exact ⟨e, rfl, .inl ⟨hz, Same.T s h⟩⟩
  · exact ⟨e, rfl, .inr ⟨hz, u, Same.T s h1, h2.same s⟩⟩
theorem ExpQ.ext {K : PySem.W.Frag} {H H' : Hp} {z : Prop} {f : Int × Int} {ev : V} (h : ExpQ K H z f ev) (s : LamX.ExtN H H') : ExpQ K H' z f ev := by
  obtain ⟨e, rfl, ⟨hz, h⟩ | ⟨hz, u, h1, h2⟩⟩ := h
  · exact ⟨e, rfl, .inl ⟨hz, ExtN.T s h⟩⟩
  · exact ⟨e, rfl, .inr ⟨hz, u, ExtN.T s h1, ExtN.fr s h2⟩⟩
theorem ExtN.frB {K : PySem.W.Frag} {H H' : Hp} {v : V} {n d : Int} {B : Nat} (k : LamX.ExtN H H') (f : FrB K H v n d B) : FrB K H' v n d B := ⟨ExtN.fr k f.fr, f.d0, f.g, f.nB, f.dB⟩
/-! ### names -/
def kws4 : List V := [.str "max", .str "min", .str "median", .str "mix"]
def lowB (c : Nat) : Bool := decide (97 ≤ c) && decide (c ≤ 122)
def nameB (z : Str) : Bool := (decide (1 ≤ z.length) && decide (z.length ≤ 6)) && (z.cps.toList.all lowB && !inV (.str z) kws4)
theorem one_lt {c d : Nat} : ([c] < [d]) ↔ c < d := by simp [List.cons_lt_cons_iff]
theorem str_a : (("a" : Str)).cps.toList = [97] := by decide +kernel
theorem str_z : (("z" : Str)).cps.toList = [122] := by decide +kernel
theorem le_a {c : Nat} : (!decide ((⟨#[c]⟩ : Str).cps.toList < ("a" : Str).cps.toList)) = decide (97 ≤ c) := by
  rw [str_a]
  show (!decide ([c] < [97])) = _
  by_cases h : c < 97
  · rw [decide_eq_true (one_lt.mpr h), decide_eq_false (by omega)]; rfl
  · rw [decide_eq_false (fun z => h (one_lt.mp z)), decide_eq_true (by omega)]; rfl
theorem le_z {c : Nat} : (!decide (("z" : Str).cps.toList < (⟨#[c]⟩ : Str).cps.toList)) = decide (c ≤ 122) := by
  rw [str_z]
  show (!decide ([122] < [c])) = _
  by_cases h : 122 < c
  · rw [decide_eq_true (one_lt.mpr h), decide_eq_false (by omega)]; rfl
  · rw [decide_eq_false (fun z => h (one_lt.mp z)), decide_eq_true (by omega)]; rfl
theorem abc_mem {c : Nat} : decide (c ∈ (("abcdefghijklmnopqrstuvwxyz" : Str)).cps.toList) = lowB c := by
  have e : (("abcdefghijklmnopqrstuvwxyz" : Str)).cps.toList = (List.range 26).map (· + 97) := by decide +kernel
  rw [e]
  unfold lowB
  by_cases h : 97 ≤ c ∧ c ≤ 122
  · rw [decide_eq_true h.1, decide_eq_true h.2]
    exact decide_eq_true (List.mem_map.mpr ⟨c - 97, by rw [List.mem_range]; omega, by omega⟩)
  · have z : (decide (97 ≤ c) && decide (c ≤ 122)) = false := by
      cases h1 : decide (97 ≤ c) <;> cases h2 : decide (c ≤ 122)
      · rfl
      · rfl
      · rfl
      · exact absurd ⟨of_decide_eq_true h1, of_decide_eq_true h2⟩ h
    rw [z]
    refine decide_eq_false fun hm => ?_
    obtain ⟨x, hx, e⟩ := List.mem_map.mp hm
    rw [List.mem_range] at hx
    omega
theorem tk_more {α β : Type} {f : α → β} {l : List α} {i : Nat} {c : α} (h : l[i]? = some c) : ((l.take (i + 1)).map f) = (l.take i).map f ++ [f c] := by
  rw [List.take_add_one, h, List.map_append]
  rfl
theorem cps_len (z : Str) : z.cps.toList.length = z.length := by simp [Str.length]
theorem gcd_fmod {a b : Int} : Int.gcd b (a.fmod b) = Int.gcd a b := by
  rw [Int.fmod_def, Int.gcd_sub_mul_left_right, Int.gcd_comm]
theorem fmod_lt {a b : Int} (hb : b ≠ 0) : (a.fmod b).natAbs < b.natAbs := by
  have pos : ∀ x y : Int, 0 < y → (x.fmod y).natAbs < y.natAbs := fun x y h => by
    rw [Int.fmod_eq_emod_of_nonneg x (by omega)]
    have h1 := Int.emod_nonneg x (show y ≠ 0 by omega)
    have h2 := Int.emod_lt_of_pos x h
    omega
  rcases Int.lt_or_lt_of_ne hb with h | h
  · have e := pos (-a) (-b) (by omega)
    rw [Int.neg_fmod_neg] at e
    omega
  · exact pos a b h
theorem frac_red {n d : Int} (hd : d ≠ 0) : (n.fdiv (if d < 0 then -(Int.gcd n d : Int) else (Int.gcd n d : Int)), d.fdiv (if d < 0 then -(Int.gcd n d : Int) else (Int.gcd n d : Int))) = red n d := by
  have g0 := gcd_posI (n := n) hd
  have d1 := Int.gcd_dvd_left n d
  have d2 := Int.gcd_dvd_right n d
  unfold red
  generalize (Int.gcd n d : Int) = g at *
  by_cases h : d < 0
  · rw [if_pos h, if_neg (show ¬ d > 0 by omega), Int.fdiv_eq_ediv_of_dvd (Int.neg_dvd.mpr d1), Int.fdiv_eq_ediv_of_dvd (Int.neg_dvd.mpr d2), Int.ediv_neg, Int.ediv_neg]
    rw [show (-1 : Int) * n = -n by omega, show (-1 : Int) * d = -d by omega, Int.neg_ediv_of_dvd d1, Int.neg_ediv_of_dvd d2]
  · rw [if_neg h, if_pos (show d > 0 by omega), Int.fdiv_eq_ediv_of_dvd d1, Int.fdiv_eq_ediv_of_dvd d2, Int.one_mul, Int.one_mul]
theorem red_congr {n d n' d' : Int} (hd : d ≠ 0) (hd' : d' ≠ 0) (h : n * d' = n' * d) : red n d = red n' d' := by
  refine red_unique hd (red_pos hd') (red_gcd hd') ?_
  have e := red_eq (n := n') hd'
  apply Int.eq_of_mul_eq_mul_right hd'
  calc (red n' d').1 * d * d' = ((red n' d').1 * d') * d := by grind
    _ = n' * d * (red n' d').2 := by rw [e]; grind
    _ = n * (red n' d').2 * d' := by rw [← h]; grind
/-! ### sums -/
abbrev QQ := Int × Int
def Low (a : QQ) : Prop := 0 < a.2 ∧ Int.gcd a.1 a.2 = 1
def radd (a b : QQ) : QQ := red (a.1 * b.2 + b.1 * a.2) (a.2 * b.2)
theorem pos_ne {a b : Int} (ha : 0 < a) (hb : 0 < b) : a * b ≠ 0 := Int.ne_of_gt (Int.mul_pos ha hb)
theorem low_red {n d : Int} (hd : d ≠ 0) : Low (red n d) := ⟨red_pos hd, red_gcd hd⟩
theorem low_add {a b : QQ} (ha : Low a) (hb : Low b) : Low (radd a b) := low_red (pos_ne ha.1 hb.1)
theorem radd_eq {a b : QQ} (ha : Low a) (hb : Low b) : (radd a b).1 * (a.2 * b.2) = (a.1 * b.2 + b.1 * a.2) * (radd a b).2 := red_eq (pos_ne ha.1 hb.1)
theorem radd_assoc {a b c : QQ} (ha : Low a) (hb : Low b) (hc : Low c) : radd (radd a b) c = radd a (radd b c) := by
  have lab := low_add ha hb
  have lbc := low_add hb hc
  have e1 := radd_eq ha hb
  have e2 := radd_eq hb hc
  show red _ _ = red _ _
  refine (red_congr (n' := a.1 * b.2 * c.2 + b.1 * a.2 * c.2 + c.1 * a.2 * b.2) (d' := a.2 * b.2 * c.2) (pos_ne lab.1 hc.1) (Int.ne_of_gt (Int.mul_pos (Int.mul_pos ha.1 hb.1) hc.1)) ?_).trans (red_congr (pos_ne ha.1 lbc.1) (Int.ne_of_gt (Int.mul_pos (Int.mul_pos ha.1 hb.1) hc.1)) ?_).symm
  · generalize radd a b = x at *
    grind
  · generalize radd b c = x at *
    grind
theorem radd_zero {b : QQ} (hb : Low b) : radd b (0, 1) = b := by
  show red (b.1 * 1 + 0 * b.2) (b.2 * 1) = b
  rw [show b.1 * 1 + 0 * b.2 = b.1 by omega, show b.2 * 1 = b.2 by omega]
  exact red_self hb.1 hb.2
theorem zero_radd {b : QQ} (hb : Low b) : radd (0, 1) b = b := by
  show red (0 * b.2 + b.1 * 1) (1 * b.2) = b
  rw [show 0 * b.2 + b.1 * 1 = b.1 by omega, show 1 * b.2 = b.2 by omega]
  exact red_self hb.1 hb.2
theorem low0 : Low (0, 1) := ⟨by decide, by decide⟩
theorem low_sum : ∀ {fs : List QQ} {s : QQ}, Low s → (∀ f ∈ fs, Low f) → Low (fs.foldl radd s)
  | [], _, h, _ => h
  | f :: fs, s, h, k => low_sum (fs := fs) (s := radd s f) (low_add h (k f List.mem_cons_self)) fun g hg => k g (List.mem_cons_of_mem _ hg)
theorem sum_from : ∀ {fs : List QQ} {s : QQ}, Low s → (∀ f ∈ fs, Low f) → fs.foldl radd s = radd s (fs.foldl radd (0, 1))
  | [], s, h, _ => (radd_zero h).symm
  | f :: fs, s, h, k => by
    have hf := k f List.mem_cons_self
    have kk : ∀ g ∈ fs, Low g := fun g hg => k g (List.mem_cons_of_mem _ hg)
    show fs.foldl radd (radd s f) = radd s (fs.foldl radd (radd (0, 1) f))
    rw [sum_from (low_add h hf) kk, zero_radd hf, sum_from hf kk, radd_assoc h hf (low_sum low0 kk)]
theorem add_bd {a b : QQ} {A B : Nat} (ha : 0 < a.2) (hb : 0 < b.2) (a1 : a.1.natAbs < 2 ^ A) (a2 : a.2.natAbs < 2 ^ A) (b1 : b.1.natAbs < 2 ^ B) (b2 : b.2.natAbs < 2 ^ B) : (radd a b).1.natAbs < 2 ^ (A + B + 1) ∧ (radd a b).2.natAbs < 2 ^ (A + B + 1) := by
  have hd : a.2 * b.2 ≠ 0 := pos_ne ha hb
  have m1 : (a.1 * b.2).natAbs < 2 ^ (A + B) := by rw [Int.natAbs_mul, Nat.pow_add]; exact Nat.mul_lt_mul'' a1 b2
  have m2 : (b.1 * a.2).natAbs < 2 ^ (A + B) := by rw [Int.natAbs_mul, Nat.pow_add, Nat.mul_comm]; exact Nat.mul_lt_mul'' a2 b1
  have m3 : (a.2 * b.2).natAbs < 2 ^ (A + B) := by rw [Int.natAbs_mul, Nat.pow_add]; exact Nat.mul_lt_mul'' a2 b2
  have e : (2 : Nat) ^ (A + B + 1) = 2 ^ (A + B) * 2 := Nat.pow_succ ..
  have n1 : (radd a b).1.natAbs ≤ (a.1 * b.2 + b.1 * a.2).natAbs := red_le1 hd
  have n2 : (radd a b).2.natAbs ≤ (a.2 * b.2).natAbs := red_le2 hd
  have n3 := Int.natAbs_add_le (a.1 * b.2) (b.1 * a.2)
  omega
/-! ### extremes -/
def rlt (a b : QQ) : Bool := decide (a.1 * b.2 < b.1 * a.2)
theorem rlt_same {a b : QQ} (ha : Low a) (hb : Low b) (h1 : rlt a b = false) (h2 : rlt b a = false) : a = b := by
  have e1 : ¬ a.1 * b.2 < b.1 * a.2 := of_decide_eq_false h1
  have e2 : ¬ b.1 * a.2 < a.1 * b.2 := of_decide_eq_false h2
  obtain ⟨x, y⟩ := low_unique ha.1 hb.1 ha.2 hb.2 (by omega)
  exact Prod.ext x y
theorem rlt_irr {a : QQ} : rlt a a = false := decide_eq_false (by omega)
theorem rlt_trans' {a b c : QQ} (ha : 0 < a.2) (hb : 0 < b.2) (hc : 0 < c.2) (h1 : rlt a b = true) (h2 : rlt c b = false) : rlt a c = true := by
  have e1 : a.1 * b.2 < b.1 * a.2 := of_decide_eq_true h1
  have e2 : ¬ c.1 * b.2 < b.1 * c.2 := of_decide_eq_false h2
  refine decide_eq_true ?_
  have k1 : a.1 * b.2 * c.2 < b.1 * a.2 * c.2 := Int.mul_lt_mul_of_pos_right e1 hc
  have k2 : b.1 * c.2 * a.2 ≤ c.1 * b.2 * a.2 := Int.mul_le_mul_of_nonneg_right (by omega) (by omega)
  have k3 : a.1 * c.2 * b.2 < c.1 * a.2 * b.2 := by
    have q1 : a.1 * c.2 * b.2 = a.1 * b.2 * c.2 := by grind
    have q2 : c.1 * a.2 * b.2 = c.1 * b.2 * a.2 := by grind
    have q3 : b.1 * a.2 * c.2 = b.1 * c.2 * a.2 := by grind
    omega
  exact Int.lt_of_mul_lt_mul_right k3 (by omega)

def Frs (K : PySem.W.Frag) (H : Hp) (xs : List V) (fs : List QQ) (B : Nat) : Prop := xs.length = fs.length ∧ ∀ (i : Nat) x f, xs[i]? = some x → fs[i]? = some f → FrB K H x f.1 f.2 B
theorem Frs.same {K : PySem.W.Frag} {H H' : Hp} {xs : List V} {fs : List QQ} {B : Nat} (h : Frs K H xs fs B) (s : Same H H') : Frs K H' xs fs B := ⟨h.1, fun i x f a b => (h.2 i x f a b).same s⟩
theorem Frs.kp {K : PySem.W.Frag} {H H' : Hp} {r : Addr} {xs : List V} {fs : List QQ} {B : Nat} (h : Frs K H xs fs B) (R : Rg H r) (k : Kp r H H') : Frs K H' xs fs B := ⟨h.1, fun i x f a b => (h.2 i x f a b).kp R k⟩
theorem Frs.low {K : PySem.W.Frag} {H : Hp} {xs : List V} {fs : List QQ} {B : Nat} (h : Frs K H xs fs B) : ∀ f ∈ fs, Low f := fun f hf => by
  obtain ⟨i, hi, e⟩ := List.getElem_of_mem hf
  have hx : xs[i]? = some (xs[i]'(by rw [h.1]; exact hi)) := List.getElem?_eq_getElem _
  have z := h.2 i _ f hx (by rw [List.getElem?_eq_getElem hi, e])
  exact ⟨z.d0, z.g⟩
theorem Frs.at {K : PySem.W.Frag} {H : Hp} {xs : List V} {fs : List QQ} {B : Nat} (h : Frs K H xs fs B) {i : Nat} {x : V} (hx : xs[i]? = some x) : ∃ f, fs[i]? = some f ∧ FrB K H x f.1 f.2 B := by
  have hi : i < fs.length := by rw [← h.1]; exact (List.getElem?_eq_some_iff.mp hx).1
  exact ⟨fs[i], List.getElem?_eq_getElem hi, h.2 i x _ hx (List.getElem?_eq_getElem hi)⟩
def Sq (K : PySem.W.Frag) (H : Hp) (p : Addr) (xs : List V) : Prop := SqL K H p xs ∨ SqT K H p xs
theorem Sq.same {K : PySem.W.Frag} {H H' : Hp} {p : Addr} {xs : List V} (h : Sq K H p xs) (s : Same H H') : Sq K H' p xs := h.elim (fun z => .inl (s.seq z)) fun z => .inr (Same.T s z)
theorem FrB.up' {K : PySem.W.Frag} {H : Hp} {v : V} {n d : Int} {B C : Nat} (f : FrB K H v n d B) (h : B ≤ C) : FrB K H v n d C := ⟨f.fr, f.d0, f.g, Nat.lt_of_lt_of_le f.nB (Nat.pow_le_pow_right (by decide) h), Nat.lt_of_lt_of_le f.dB (Nat.pow_le_pow_right (by decide) h)⟩
theorem FrB.low {K : PySem.W.Frag} {H : Hp} {v : V} {f : QQ} {B : Nat} (h : FrB K H v f.1 f.2 B) : Low f := ⟨h.d0, h.g⟩
theorem FrB.add {K : PySem.W.Frag} {H : Hp} {v1 v2 : V} {a b : QQ} {A B : Nat} {p : Addr} (ha : FrB K H v1 a.1 a.2 A) (hb : FrB K H v2 b.1 b.2 B) : FrB K (upd H p (.tup [.int (radd a b).1, .int (radd a b).2])) (.ref p) (radd a b).1 (radd a b).2 (A + B + 1) := by
  have l := low_add ha.low hb.low
  have bd := add_bd ha.d0 hb.d0 ha.nB ha.dB hb.nB hb.dB
  exact ⟨Fr.new, l.1, l.2, bd.1, bd.2⟩
theorem mulW {a b : Int} {A : Nat} (ha : a.natAbs < 2 ^ A) (hb : b.natAbs < 2 ^ A) (h0 : 0 < A) (h1 : A ≤ 500000) : CMulW a b := wide_mul ha hb h0 h0 (by omega)
def spAdd (K : PySem.W.Frag) : Sp := fun vs H Q _ => ∃ (v1 v2 : V) (a b : QQ), vs = [v1, v2] ∧ FrB K H v1 a.1 a.2 3000 ∧ FrB K H v2 b.1 b.2 3000 ∧ ∀ p, H p = none → Q (.ref p) (upd H p (.tup [.int (radd a b).1, .int (radd a b).2]))
def spLess (K : PySem.W.Frag) : Sp := fun vs H Q _ => ∃ (v1 v2 : V) (a b : QQ), vs = [v1, v2] ∧ FrB K H v1 a.1 a.2 20000 ∧ FrB K H v2 b.1 b.2 20000 ∧ Q (.bl (rlt a b)) H
/-- the first place of the best by lt -/
def Fst (lt : QQ → QQ → Bool) (fs : List QQ) (j : Nat) : Prop := ∃ f, fs[j]? = some f ∧ (∀ (i : Nat) g, fs[i]? = some g → lt f g = false) ∧ ∀ (i : Nat) g, i < j → fs[i]? = some g → lt g f = true
abbrev FstMax (fs : List QQ) (j : Nat) : Prop := Fst rlt fs j
abbrev FstMin (fs : List QQ) (j : Nat) : Prop := Fst (fun a b => rlt b a) fs j
theorem rlt_asym {a b : QQ} (h : rlt a b = true) : rlt b a = false := by
  have e : a.1 * b.2 < b.1 * a.2 := of_decide_eq_true h
  exact decide_eq_false (by omega)
theorem rlt_le_lt {a b c : QQ} (ha : 0 < a.2) (hb : 0 < b.2) (hc : 0 < c.2) (h1 : rlt b a = false) (h2 : rlt b c = true) : rlt a c = true := by
  have e1 : ¬ b.1 * a.2 < a.1 * b.2 := of_decide_eq_false h1
  have e2 : b.1 * c.2 < c.1 * b.2 := of_decide_eq_true h2
  refine decide_eq_true ?_
  have k1 : b.1 * c.2 * a.2 < c.1 * b.2 * a.2 := Int.mul_lt_mul_of_pos_right e2 ha
  have k2 : a.1 * b.2 * c.2 ≤ b.1 * a.2 * c.2 := Int.mul_le_mul_of_nonneg_right (by omega) (by omega)
  have k3 : a.1 * c.2 * b.2 < c.1 * a.2 * b.2 := by
    have q1 : a.1 * c.2 * b.2 = a.1 * b.2 * c.2 := by grind
    have q2 : c.1 * a.2 * b.2 = c.1 * b.2 * a.2 := by grind
    have q3 : b.1 * a.2 * c.2 = b.1 * c.2 * a.2 := by grind
    omega
  exact Int.lt_of_mul_lt_mul_right k3 (by omega)
structure Ord (lt : QQ → QQ → Bool) : Prop where
  irr : ∀ a, lt a a = false
  lelt : ∀ a b c : QQ, 0 < a.2 → 0 < b.2 → 0 < c.2 → lt b a = false → lt b c = true → lt a c = true
  asym : ∀ a b, lt a b = true → lt b a = false
theorem ordMax : Ord rlt := ⟨fun _ => rlt_irr, fun _ _ _ ha hb hc h1 h2 => rlt_le_lt ha hb hc h1 h2, fun _ _ h => rlt_asym h⟩
theorem ordMin : Ord (fun a b => rlt b a) := ⟨fun _ => rlt_irr, fun _ _ _ ha hb hc h1 h2 => rlt_trans' hc hb ha h2 h1, fun _ _ h => rlt_asym h⟩
/-- between two turns: best so far among the first i -/
def Bst (lt : QQ → QQ → Bool) (fs : List QQ) (i j : Nat) : Prop := ∃ f, fs[j]? = some f ∧ (∀ (m : Nat) g, m < i → fs[m]? = some g → lt f g = false) ∧ ∀ (m : Nat) g, m < j → fs[m]? = some g → lt g f = true
theorem Bst.start {lt : QQ → QQ → Bool} {fs : List QQ} (h : 0 < fs.length) : Bst lt fs 0 0 := ⟨fs[0], List.getElem?_eq_getElem h, fun m g hm => absurd hm (by omega), fun m g hm => absurd hm (by omega)⟩
theorem Bst.keep {lt : QQ → QQ → Bool} {fs : List QQ} {i j : Nat} {f g : QQ} (b : Bst lt fs i j) (hf : fs[j]? = some f) (hg : fs[i]? = some g) (h : lt f g = false) : Bst lt fs (i + 1) j := by
  obtain ⟨f', e, k1, k2⟩ := b
  rw [hf] at e; cases e
  refine ⟨f, hf, fun m x hm hx => ?_, k2⟩
  by_cases z : m = i
  · subst z; rw [hg] at hx; cases hx; exact h
  · exact k1 m x (by omega) hx
theorem Bst.take {lt : QQ → QQ → Bool} {fs : List QQ} {i j : Nat} {f g : QQ} (O : Ord lt) (lo : ∀ f ∈ fs, Low f) (b : Bst lt fs i j) (hf : fs[j]? = some f) (hg : fs[i]? = some g) (h : lt f g = true) : Bst lt fs (i + 1) i := by
  obtain ⟨f', e, k1, k2⟩ := b
  rw [hf] at e; cases e
  have pf := (lo f (List.mem_of_getElem? hf)).1
  have pg := (lo g (List.mem_of_getElem? hg)).1
  have up : ∀ (m : Nat) x, m < i → fs[m]? = some x → lt x g = true := fun m x hm hx => O.lelt x f g (lo x (List.mem_of_getElem? hx)).1 pf pg (k1 m x hm hx) h
  refine ⟨g, hg, fun m x hm hx => ?_, up⟩
  by_cases z : m = i
  · subst z; rw [hg] at hx; cases hx; exact O.irr g
  · exact O.asym _ _ (up m x (by omega) hx)
theorem Bst.fst {lt : QQ → QQ → Bool} {fs : List QQ} {j : Nat} (b : Bst lt fs fs.length j) : Fst lt fs j := by
  obtain ⟨f, e, k1, k2⟩ := b
  exact ⟨f, e, fun m g hg => k1 m g (List.getElem?_eq_some_iff.mp hg).1 hg, k2⟩
theorem Bst.lt {lt : QQ → QQ → Bool} {fs : List QQ} {i j : Nat} (b : Bst lt fs i j) : j < fs.length := by
  obtain ⟨f, e, _⟩ := b
  exact (List.getElem?_eq_some_iff.mp e).1
theorem Frs.nil' {K : PySem.W.Frag} {H : Hp} {B : Nat} : Frs K H [] [] B := ⟨rfl, fun i x f h => by cases h⟩
theorem Frs.cons' {K : PySem.W.Frag} {H : Hp} {B : Nat} {x : V} {f : QQ} {xs : List V} {fs : List QQ} (h : FrB K H x f.1 f.2 B) (t : Frs K H xs fs B) : Frs K H (x :: xs) (f :: fs) B :=
  ⟨by rw [List.length_cons, List.length_cons, t.1], fun i y g a b => by
    cases i with
    | zero => cases a; cases b; exact h
    | succ i => exact t.2 i y g a b⟩
theorem Frs.uncons' {K : PySem.W.Frag} {H : Hp} {B : Nat} {x : V} {f : QQ} {xs : List V} {fs : List QQ} (t : Frs K H (x :: xs) (f :: fs) B) : FrB K H x f.1 f.2 B ∧ Frs K H xs fs B :=
  ⟨t.2 0 x f rfl rfl, by have := t.1; simpa using this, fun i y g a b => t.2 (i + 1) y g a b⟩
theorem Frs.app' {K : PySem.W.Frag} {H : Hp} {B : Nat} : ∀ {xs : List V} {fs : List QQ} {ys : List V} {gs : List QQ}, Frs K H xs fs B → Frs K H ys gs B → Frs K H (xs ++ ys) (fs ++ gs) B
  | [], [], _, _, _, b => b
  | [], _ :: _, _, _, a, _ => by have := a.1; cases this
  | _ :: _, [], _, _, a, _ => by have := a.1; cases this
  | x :: xs, f :: fs, ys, gs, a, b => Frs.cons' a.uncons'.1 (Frs.app' a.uncons'.2 b)
theorem FrB.put' {K : PySem.W.Frag} {H : Hp} {v : V} {n d : Int} {B : Nat} {D : Addr} {l l' : List V} (f : FrB K H v n d B) (hD : H D = some (.lst l)) : FrB K (upd H D (.lst l')) v n d B := by
  refine ⟨?_, f.d0, f.g, f.nB, f.dB⟩
  obtain ⟨p, rfl, h⟩ := f.fr
  refine ⟨p, rfl, ?_⟩
  rcases h with (h | ⟨o, h⟩) | h
  · exact .inl (.inl (by rw [upd_ne (ne_of h hD (fun z => by cases z))]; exact h))
  · exact .inl (.inr ⟨o, by rw [upd_ne (ne_of h hD (fun z => by cases z))]; exact h⟩)
  · exact .inr h
theorem Frs.put' {K : PySem.W.Frag} {H : Hp} {B : Nat} {D : Addr} {l l' : List V} {xs : List V} {fs : List QQ} (f : Frs K H xs fs B) (hD : H D = some (.lst l)) : Frs K (upd H D (.lst l')) xs fs B := ⟨f.1, fun i x g a b => (f.2 i x g a b).put' hD⟩
theorem Frs.one' {K : PySem.W.Frag} {H : Hp} {B : Nat} {x : V} {f : QQ} (h : FrB K H x f.1 f.2 B) : Frs K H [x] [f] B := Frs.cons' h Frs.nil'
def spSub (K : PySem.W.Frag) : Sp := fun vs H Q _ => ∃ (v1 v2 : V) (x y : QQ), vs = [v1, v2] ∧ FrB K H v1 x.1 x.2 3000 ∧ FrB K H v2 y.1 y.2 3000 ∧ ∀ r, H r = none → Q (.ref r) (upd H r (.tup [.int (red (x.1 * y.2 - y.1 * x.2) (x.2 * y.2)).1, .int (red (x.1 * y.2 - y.1 * x.2) (x.2 * y.2)).2]))
def spMul (K : PySem.W.Frag) : Sp := fun vs H Q _ => ∃ (v1 v2 : V) (x y : QQ), vs = [v1, v2] ∧ FrB K H v1 x.1 x.2 3000 ∧ FrB K H v2 y.1 y.2 3000 ∧ ∀ r, H r = none → Q (.ref r) (upd H r (.tup [.int (red (x.1 * y.1) (x.2 * y.2)).1, .int (red (x.1 * y.1) (x.2 * y.2)).2]))
def spDiv (K : PySem.W.Frag) : Sp := fun vs H Q _ => ∃ (v1 v2 : V) (x y : QQ), vs = [v1, v2] ∧ FrB K H v1 x.1 x.2 3000 ∧ FrB K H v2 y.1 y.2 3000 ∧ y.1 ≠ 0 ∧ ∀ r, H r = none → Q (.ref r) (upd H r (.tup [.int (red (x.1 * y.2) (x.2 * y.1)).1, .int (red (x.1 * y.2) (x.2 * y.1)).2]))
theorem ne_mul {i j : Int} (h : 0 < i) (k : j ≠ 0) : i * j ≠ 0 := fun z => by
  rcases Int.mul_eq_zero.mp z with z | z
  · omega
  · exact k z
/-! ### terms -/
inductive Kd where
  | delay (f : QQ) | max | min | median | mix (ws : List QQ)
inductive Tm where
  | ev (n : Str) : Tm
  | nd (k : Kd) (ts : List Tm) : Tm
def Tm.subs : Tm → List Tm
  | .ev _ => []
  | .nd _ ts => ts
mutual
def Tm.size : Tm → Nat
  | .ev _ => 1
  | .nd _ ts => 1 + Tm.sizes ts
def Tm.sizes : List Tm → Nat
  | [] => 0
  | t :: ts => t.size + Tm.sizes ts
end
mutual
def Tm.depth : Tm → Nat
  | .ev _ => 1
  | .nd _ ts => 1 + Tm.depths ts
def Tm.depths : List Tm → Nat
  | [] => 0
  | t :: ts => Nat.max t.depth (Tm.depths ts)
end
mutual
def Tm.flat : Tm → List Str
  | .ev s => [s]
  | .nd _ ts => Tm.flats ts
def Tm.flats : List Tm → List Str
  | [] => []
  | t :: ts => t.flat ++ Tm.flats ts
end
theorem Tm.size_eq (t : Tm) : t.size = 1 + Tm.sizes t.subs := by cases t <;> simp [Tm.size, Tm.subs, Tm.sizes]
theorem Tm.sizes_eq : ∀ ts : List Tm, Tm.sizes ts = (ts.map Tm.size).sum
  | [] => by simp [Tm.sizes]
  | t :: ts => by rw [Tm.sizes, Tm.sizes_eq ts, List.map_cons, List.sum_cons]
def All2 (R : V → Tm → Prop) (xs : List V) (ts : List Tm) : Prop := xs.length = ts.length ∧ ∀ (i : Nat) x t, xs[i]? = some x → ts[i]? = some t → R x t
theorem All2.mono {R S : V → Tm → Prop} {xs : List V} {ts : List Tm} (h : All2 R xs ts) (k : ∀ x t, R x t → S x t) : All2 S xs ts := ⟨h.1, fun i x t a b => k x t (h.2 i x t a b)⟩
theorem All2.nil {R : V → Tm → Prop} : All2 R [] [] := ⟨rfl, fun i x t h => by cases h⟩
theorem All2.snoc {R : V → Tm → Prop} {xs : List V} {ts : List Tm} {x : V} {t : Tm} (h : All2 R xs ts) (k : R x t) : All2 R (xs ++ [x]) (ts ++ [t]) := by
  refine ⟨by rw [List.length_append, List.length_append, h.1]; rfl, fun i y u a b => ?_⟩
  by_cases hi : i < xs.length
  · rw [List.getElem?_append_left hi] at a
    rw [List.getElem?_append_left (by rw [← h.1]; exact hi)] at b
    exact h.2 i y u a b
  · have e : i = xs.length := by
      have := (List.getElem?_eq_some_iff.mp a).1
      rw [List.length_append] at this
      have : i < xs.length + 1 := this
      omega
    subst e
    rw [List.getElem?_append_right (Nat.le_refl _), Nat.sub_self] at a
    rw [h.1, List.getElem?_append_right (Nat.le_refl _), Nat.sub_self] at b
    cases a; cases b
    exact k
theorem All2.one {R : V → Tm → Prop} {x : V} {t : Tm} (k : R x t) : All2 R [x] [t] := All2.nil.snoc k
theorem All2.at {R : V → Tm → Prop} {xs : List V} {ts : List Tm} (h : All2 R xs ts) {i : Nat} {x : V} (hx : xs[i]? = some x) : ∃ t, ts[i]? = some t ∧ R x t := by
  have l : i < ts.length := by rw [← h.1]; exact (List.getElem?_eq_some_iff.mp hx).1
  exact ⟨ts[i], List.getElem?_eq_getElem l, h.2 i x _ hx (List.getElem?_eq_getElem l)⟩
def kdS : Kd → Str
  | .delay _ => "delay" | .max => "max" | .min => "min" | .median => "median" | .mix _ => "mix"
/-- a tuple that stands for a term of the kind k over the values xs -/
def Node (K : PySem.W.Frag) (H : Hp) (v : V) : Kd → List V → Prop
  | .delay f, xs => ∃ p x fv, xs = [x] ∧ v = .ref p ∧ SqT K H p [.str "delay", x, fv] ∧ FrB K H fv f.1 f.2 40
  | .max, xs => ∃ p, v = .ref p ∧ SqT K H p (.str "max" :: xs)
  | .min, xs => ∃ p, v = .ref p ∧ SqT K H p (.str "min" :: xs)
  | .median, xs => ∃ p, v = .ref p ∧ SqT K H p (.str "median" :: xs)
  | .mix ws, xs => ∃ p ys, v = .ref p ∧ SqT K H p (.str "mix" :: ys) ∧ ys.length = xs.length ∧ ws.length = xs.length ∧ ∀ (i : Nat) y x f, ys[i]? = some y → xs[i]? = some x → ws[i]? = some f → ∃ q wv, y = .ref q ∧ SqT K H q [wv, x] ∧ FrB K H wv f.1 f.2 40
def TmAt (K : PySem.W.Frag) (H : Hp) : Nat → V → Tm → Prop
  | 0, _, _ => False
  | _ + 1, v, .ev s => ∃ p, v = .ref p ∧ SqT K H p [.str "event", .str s]
  | n + 1, v, .nd k ts => ∃ xs, Node K H v k xs ∧ All2 (TmAt K H n) xs ts
section
variable {K : PySem.W.Frag} {H H' : Hp}
theorem Node.imp (sT : ∀ p xs, SqT K H p xs → SqT K H' p xs) {v : V} {k : Kd} {xs : List V} (h : Node K H v k xs) : Node K H' v k xs := by
  have fb : ∀ {v n d B}, FrB K H v n d B → FrB K H' v n d B := fun f => ⟨by obtain ⟨p, e, z⟩ := f.fr; exact ⟨p, e, sT _ _ z⟩, f.d0, f.g, f.nB, f.dB⟩
  cases k with
  | delay f => obtain ⟨p, x, fv, e1, e2, h1, h2⟩ := h; exact ⟨p, x, fv, e1, e2, sT _ _ h1, fb h2⟩
  | max => obtain ⟨p, e, h1⟩ := h; exact ⟨p, e, sT _ _ h1⟩
  | min => obtain ⟨p, e, h1⟩ := h; exact ⟨p, e, sT _ _ h1⟩
  | median => obtain ⟨p, e, h1⟩ := h; exact ⟨p, e, sT _ _ h1⟩
  | mix ws =>
    obtain ⟨p, ys, e, h1, l1, l2, h2⟩ := h
    refine ⟨p, ys, e, sT _ _ h1, l1, l2, fun i y x f a b c => ?_⟩
    obtain ⟨q, wv, e', h3, h4⟩ := h2 i y x f a b c
    exact ⟨q, wv, e', sT _ _ h3, fb h4⟩
theorem TmAt.imp (sT : ∀ p xs, SqT K H p xs → SqT K H' p xs) : ∀ {n : Nat} {v : V} {t : Tm}, TmAt K H n v t → TmAt K H' n v t
  | 0, _, _, h => h
  | n + 1, v, .ev s, h => by obtain ⟨p, e, z⟩ := h; exact ⟨p, e, sT _ _ z⟩
  | n + 1, v, .nd k ts, h => by
    obtain ⟨xs, h1, h2⟩ := h
    exact ⟨xs, h1.imp sT, h2.mono fun x t z => TmAt.imp sT z⟩
theorem TmAt.same (s : Same H H') {n : Nat} {v : V} {t : Tm} (h : TmAt K H n v t) : TmAt K H' n v t := h.imp fun _ _ z => Same.T s z
theorem TmAt.kp {r : Addr} (R : Rg H r) (k : Kp r H H') {n : Nat} {v : V} {t : Tm} (h : TmAt K H n v t) : TmAt K H' n v t := h.imp fun _ _ z => RgT R k z
theorem TmAt.put {D : Addr} {l l' : List V} (hD : H D = some (.lst l)) {n : Nat} {v : V} {t : Tm} (h : TmAt K H n v t) : TmAt K (upd H D (.lst l')) n v t := h.imp fun p xs z => by
  rcases z with (z | ⟨o, z⟩) | z
  · exact .inl (.inl (by rw [upd_ne (ne_of z hD (fun y => by cases y))]; exact z))
  · exact .inl (.inr ⟨o, by rw [upd_ne (ne_of z hD (fun y => by cases y))]; exact z⟩)
  · exact .inr z
theorem TmAt.up : ∀ {n : Nat} {v : V} {t : Tm}, TmAt K H n v t → TmAt K H (n + 1) v t
  | 0, _, _, h => h.elim
  | n + 1, v, .ev s, h => h
  | n + 1, v, .nd k ts, h => by
    obtain ⟨xs, h1, h2⟩ := h
    exact ⟨xs, h1, h2.mono fun x t z => TmAt.up z⟩
theorem TmAt.le {n m : Nat} (l : n ≤ m) {v : V} {t : Tm} (h : TmAt K H n v t) : TmAt K H m v t := by
  induction l with
  | refl => exact h
  | step _ ih => exact ih.up
end
/-- what the law's terms have: names of the list, few operands, shares -/
def ShW (ws : List QQ) : Prop := ∃ is : List Int, (∀ i ∈ is, 1 ≤ i ∧ i ≤ 4) ∧ is.length ≤ 6 ∧ ws = is.map fun i => red i is.sum
/-- a small delay -/
def DlS (f : QQ) : Prop := f.1.natAbs < 32 ∧ 0 < f.2 ∧ f.2 < 32 ∧ Int.gcd f.1 f.2 = 1
theorem FrB.dls {K : PySem.W.Frag} {H : Hp} {v : V} {n d : Int} (h : FrB K H v n d 5) : DlS (n, d) := ⟨h.nB, h.d0, by have h1 := h.d0; have h2 : d.natAbs < 32 := h.dB; show d < 32; omega, h.g⟩
def KdOk : Kd → Nat → Prop
  | .delay f, m => m = 1 ∧ DlS f
  | .max, m => 1 ≤ m ∧ m ≤ 3
  | .min, m => 1 ≤ m ∧ m ≤ 3
  | .median, m => m = 3
  | .mix ws, m => 1 ≤ m ∧ m ≤ 3 ∧ ws.length = m ∧ ShW ws
def Good (ss : List Str) : Nat → Tm → Prop
  | 0, _ => False
  | _ + 1, .ev s => s ∈ ss
  | n + 1, .nd k ts => KdOk k ts.length ∧ ∀ t ∈ ts, Good ss n t
/-- the same, up to six operands -/
def KdW : Kd → Nat → Prop
  | .delay f, m => m = 1 ∧ DlS f
  | .max, m => 1 ≤ m ∧ m ≤ 6
  | .min, m => 1 ≤ m ∧ m ≤ 6
  | .median, m => m = 3
  | .mix ws, m => (1 ≤ m ∧ m ≤ 6) ∧ ws.length = m ∧ ShW ws
def WT (ss : List Str) : Nat → Tm → Prop
  | 0, _ => False
  | _ + 1, .ev s => s ∈ ss
  | n + 1, .nd k ts => KdW k ts.length ∧ ∀ t ∈ ts, WT ss n t
theorem KdOk.w {k : Kd} {m : Nat} (h : KdOk k m) : KdW k m := by
  cases k with
  | delay f => exact h
  | max => exact ⟨h.1, by have := h.2; omega⟩
  | min => exact ⟨h.1, by have := h.2; omega⟩
  | median => exact h
  | mix ws => exact ⟨⟨h.1, by have := h.2.1; omega⟩, h.2.2⟩
theorem Good.wt {ss : List Str} : ∀ {n : Nat} {t : Tm}, Good ss n t → WT ss n t
  | 0, _, h => h
  | n + 1, .ev s, h => h
  | n + 1, .nd k ts, h => ⟨h.1.w, fun t ht => (h.2 t ht).wt⟩
theorem WT.up {ss : List Str} : ∀ {n : Nat} {t : Tm}, WT ss n t → WT ss (n + 1) t
  | 0, _, h => h.elim
  | n + 1, .ev s, h => h
  | n + 1, .nd k ts, h => ⟨h.1, fun t ht => (h.2 t ht).up⟩
theorem WT.le {ss : List Str} {n m : Nat} (l : n ≤ m) {t : Tm} (h : WT ss n t) : WT ss m t := by
  induction l with
  | refl => exact h
  | step _ ih => exact ih.up
def szB : Nat → Nat
  | 0 => 0
  | n + 1 => 1 + 3 * szB n
theorem Good.up {ss : List Str} : ∀ {n : Nat} {t : Tm}, Good ss n t → Good ss (n + 1) t
  | 0, _, h => h.elim
  | n + 1, .ev s, h => h
  | n + 1, .nd k ts, h => ⟨h.1, fun t ht => (h.2 t ht).up⟩
theorem Good.le {ss : List Str} {n m : Nat} (l : n ≤ m) {t : Tm} (h : Good ss n t) : Good ss m t := by
  induction l with
  | refl => exact h
  | step _ ih => exact ih.up
theorem KdOk.three {k : Kd} {m : Nat} (h : KdOk k m) : m ≤ 3 := by
  cases k with
  | delay f => have : m = 1 := h.1; omega
  | max => exact h.2
  | min => exact h.2
  | median => exact Nat.le_of_eq h
  | mix ws => exact h.2.1
theorem sizes_le {B : Nat} : ∀ {ts : List Tm}, (∀ t ∈ ts, t.size ≤ B) → Tm.sizes ts ≤ ts.length * B
  | [], _ => by simp [Tm.sizes]
  | t :: ts, h => by
    rw [Tm.sizes, List.length_cons, Nat.add_mul, Nat.one_mul]
    have h1 := h t List.mem_cons_self
    have h2 := sizes_le (B := B) (ts := ts) fun u hu => h u (List.mem_cons_of_mem _ hu)
    omega
theorem Good.size {ss : List Str} : ∀ {n : Nat} {t : Tm}, Good ss n t → t.size ≤ szB n
  | 0, _, h => h.elim
  | n + 1, .ev s, _ => by simp [Tm.size, szB]
  | n + 1, .nd k ts, h => by
    have h1 := sizes_le (B := szB n) fun t ht => (h.2 t ht).size
    have h2 := Nat.mul_le_mul_right (szB n) h.1.three
    rw [Tm.size, szB]
    omega
theorem Tm.depth_eq (t : Tm) : t.depth = 1 + Tm.depths t.subs := by cases t <;> simp [Tm.depth, Tm.subs, Tm.depths]
theorem depths_ge : ∀ {ts : List Tm} {u : Tm}, u ∈ ts → u.depth ≤ Tm.depths ts
  | t :: ts, u, h => by
    rw [Tm.depths]
    rcases List.mem_cons.mp h with z | z
    · rw [z]; exact Nat.le_max_left _ _
    · exact Nat.le_trans (depths_ge z) (Nat.le_max_right _ _)
theorem depths_in : ∀ {ts : List Tm}, ts ≠ [] → ∃ u ∈ ts, Tm.depths ts = u.depth
  | [], h => absurd rfl h
  | t :: ts, _ => by
    rw [Tm.depths]
    by_cases q : ts = []
    · subst q
      exact ⟨t, List.mem_cons_self, by rw [Tm.depths]; exact Nat.max_eq_left (Nat.zero_le _)⟩
    · obtain ⟨u, hu, e⟩ := depths_in q
      by_cases c : Tm.depths ts ≤ t.depth
      · exact ⟨t, List.mem_cons_self, Nat.max_eq_left c⟩
      · exact ⟨u, List.mem_cons_of_mem _ hu, by rw [← e]; exact Nat.max_eq_right (by omega)⟩
theorem depths_max {ts : List Tm} {m : Int} (hm : m ∈ ts.map (fun u => (u.depth : Int))) (hk : ∀ k ∈ ts.map (fun u => (u.depth : Int)), k ≤ m) : (Tm.depths ts : Int) = m := by
  obtain ⟨u, hu, rfl⟩ := List.mem_map.mp hm
  have h1 := depths_ge hu
  obtain ⟨v, hv, e⟩ := depths_in (ts := ts) (fun z => by rw [z] at hu; cases hu)
  have h2 := hk _ (List.mem_map.mpr ⟨v, hv, rfl⟩)
  have h2' : (v.depth : Int) ≤ (u.depth : Int) := h2
  omega
def ArOk : Tm → Prop
  | .ev _ => True
  | .nd _ ts => 1 ≤ ts.length ∧ ts.length ≤ 60
theorem Good.ar {ss : List Str} {n : Nat} {t : Tm} (h : Good ss n t) : ArOk t := by
  cases n with
  | zero => exact h.elim
  | succ n =>
    cases t with
    | ev s => trivial
    | nd k ts =>
      have h3 := h.1.three
      refine ⟨?_, by omega⟩
      have hk := h.1
      cases k with
      | delay f => have : ts.length = 1 := hk.1; omega
      | max => exact hk.1
      | min => exact hk.1
      | median => have : ts.length = 3 := hk; omega
      | mix ws => exact hk.1
/-- the direct subterms, as a new list -/
def spSubs (K : PySem.W.Frag) : Sp := fun vs H Q _ => ∃ (v : V) (t : Tm) (n : Nat), vs = [v] ∧ TmAt K H (n + 1) v t ∧ ArOk t ∧ ∀ l H' xs, Same H H' → H l = none → H' l = some (.lst xs) → All2 (TmAt K H' n) xs t.subs → Q (.ref l) H'
theorem cut_one (x : V) (xs : List V) : cutV (x :: xs) (some 1) none = xs := by
  unfold cutV
  rw [show HT.sIx (x :: xs).length 0 (some 1) = min 1 (x :: xs).length from HT.sIx_nat (x :: xs).length 0 1, HT.sIx_none, List.length_cons, show min 1 (xs.length + 1) = 1 by omega]
  show List.take (xs.length + 1 - 1) xs = xs
  rw [Nat.add_sub_cancel, List.take_length]
theorem not_whole (x : V) (xs : List V) : ¬ (HT.sIx (x :: xs).length 0 (some 1) = 0 ∧ HT.sIx (x :: xs).length (x :: xs).length none = (x :: xs).length) := fun z => by
  have e : HT.sIx (x :: xs).length 0 (some 1) = min 1 (x :: xs).length := HT.sIx_nat (x :: xs).length 0 1
  rw [e, List.length_cons] at z
  have := z.1
  omega
theorem str_no {x y : Str} (h : decide (x = y) = false) : decide (V.str x = V.str y) = false := decide_eq_false fun z => of_decide_eq_false h (V.str.inj z)
/-- the pairs of a mix, walked: what is collected -/
theorem mix_at {K : PySem.W.Frag} {H : Hp} {ws : List QQ} {ys xs : List V} (l1 : ys.length = xs.length) (l2 : ws.length = xs.length) (h : ∀ (i : Nat) y x f, ys[i]? = some y → xs[i]? = some x → ws[i]? = some f → ∃ q wv, y = .ref q ∧ SqT K H q [wv, x] ∧ FrB K H wv f.1 f.2 40) {i : Nat} {y : V} (hy : ys[i]? = some y) :
    ∃ x q wv f, xs[i]? = some x ∧ ws[i]? = some f ∧ y = .ref q ∧ SqT K H q [wv, x] ∧ FrB K H wv f.1 f.2 40 := by
  have hi : i < ys.length := (List.getElem?_eq_some_iff.mp hy).1
  have a : xs[i]? = some (xs[i]'(by omega)) := List.getElem?_eq_getElem _
  have b : ws[i]? = some (ws[i]'(by omega)) := List.getElem?_eq_getElem _
  obtain ⟨q, wv, e, h1, h2⟩ := h i y _ _ hy a b
  exact ⟨_, q, wv, _, a, b, e, h1, h2⟩
def ArN : Nat → Tm → Prop
  | 0, _ => False
  | _ + 1, .ev _ => True
  | n + 1, .nd _ ts => (1 ≤ ts.length ∧ ts.length ≤ 60) ∧ ∀ t ∈ ts, ArN n t
theorem Good.arN {ss : List Str} : ∀ {n : Nat} {t : Tm}, Good ss n t → ArN n t
  | 0, _, h => h
  | n + 1, .ev s, h => trivial
  | n + 1, .nd k ts, h => ⟨Good.ar (n := n + 1) (t := .nd k ts) h, fun t ht => (h.2 t ht).arN⟩
theorem ArN.ok {n : Nat} {t : Tm} (h : ArN n t) : ArOk t := by
  cases n with
  | zero => exact h.elim
  | succ n => cases t with
    | ev s => trivial
    | nd k ts => exact h.1
theorem ArN.sub {n : Nat} {t u : Tm} (h : ArN (n + 1) t) (hu : u ∈ t.subs) : ArN n u := by
  cases t with
  | ev s => cases hu
  | nd k ts => exact h.2 u hu
theorem ArN.len {n : Nat} {t : Tm} (h : ArN n t) : t.subs.length ≤ 60 := by
  cases n with
  | zero => exact h.elim
  | succ n => cases t with
    | ev s => exact Nat.zero_le _
    | nd k ts => exact h.1.2
def spSize (K : PySem.W.Frag) : Nat → Sp
  | 0 => fun _ _ _ _ => False
  | n + 1 => fun vs H Q _ => ∃ (v : V) (t : Tm), vs = [v] ∧ TmAt K H (n + 1) v t ∧ ArN (n + 1) t ∧ ∀ H', Same H H' → Q (.int (t.size : Nat)) H'
def spDepth (K : PySem.W.Frag) : Nat → Sp
  | 0 => fun _ _ _ _ => False
  | n + 1 => fun vs H Q _ => ∃ (v : V) (t : Tm), vs = [v] ∧ TmAt K H (n + 1) v t ∧ ArN (n + 1) t ∧ ∀ H', Same H H' → Q (.int (t.depth : Nat)) H'
/-! ### names in order of first occurrence -/
def addS (acc : List Str) (s : Str) : List Str := if s ∈ acc then acc else acc ++ [s]
def ded (l : List Str) : List Str := l.foldl addS []
theorem add_mem {acc : List Str} {s x : Str} : x ∈ addS acc s ↔ x ∈ acc ∨ x = s := by
  unfold addS
  by_cases h : s ∈ acc
  · rw [if_pos h]
    exact ⟨.inl, fun z => z.elim id fun e => by rw [e]; exact h⟩
  · rw [if_neg h, List.mem_append, List.mem_singleton]
theorem fold_mem : ∀ {l acc : List Str} {x : Str}, x ∈ l.foldl addS acc ↔ x ∈ acc ∨ x ∈ l
  | [], acc, x => by simp
  | s :: l, acc, x => by
    rw [List.foldl_cons, fold_mem (l := l), add_mem, List.mem_cons]
    constructor
    · rintro ((h | h) | h)
      · exact .inl h
      · exact .inr (.inl h)
      · exact .inr (.inr h)
    · rintro (h | h | h)
      · exact .inl (.inl h)
      · exact .inl (.inr h)
      · exact .inr h
theorem add_old {acc : List Str} {s : Str} (h : s ∈ acc) : addS acc s = acc := if_pos h
theorem add_new {acc : List Str} {s : Str} (h : s ∉ acc) : addS acc s = acc ++ [s] := if_neg h
/-- folding the first occurrences in is folding all in -/
theorem fold_ded : ∀ (l m acc : List Str), (l.foldl addS m).foldl addS acc = l.foldl addS (m.foldl addS acc)
  | [], _, _ => rfl
  | s :: l, m, acc => by
    rw [List.foldl_cons, List.foldl_cons, fold_ded l (addS m s) acc]
    congr 1
    by_cases h : s ∈ m
    · rw [add_old h, add_old (fold_mem.mpr (.inr h))]
    · rw [add_new h, List.foldl_append]
      rfl
theorem ded_into (l acc : List Str) : (ded l).foldl addS acc = l.foldl addS acc := fold_ded l [] acc
theorem in_strs (s : Str) (acc : List Str) : inV (.str s) (acc.map V.str) = decide (s ∈ acc) := by
  unfold inV
  rw [List.any_map]
  by_cases h : s ∈ acc
  · rw [decide_eq_true h]
    exact List.any_eq_true.mpr ⟨s, h, by show (s == s) = true; simp⟩
  · rw [decide_eq_false h]
    refine Bool.eq_false_iff.mpr fun z => ?_
    obtain ⟨y, hy, e⟩ := List.any_eq_true.mp z
    have e' : (y == s) = true := e
    rw [beq_iff_eq] at e'
    exact h (e' ▸ hy)
theorem flat_strs (l : List Str) : (l.map V.str).all flatV = true := by
  rw [List.all_map]
  exact List.all_eq_true.mpr fun _ _ => rfl
theorem flats_take {ts : List Tm} {i : Nat} {u : Tm} (h : ts[i]? = some u) : Tm.flats (ts.take (i + 1)) = Tm.flats (ts.take i) ++ u.flat := by
  have app : ∀ a b : List Tm, Tm.flats (a ++ b) = Tm.flats a ++ Tm.flats b := by
    intro a b
    induction a with
    | nil => rfl
    | cons x a ih => rw [List.cons_append, Tm.flats, Tm.flats, ih, List.append_assoc]
  rw [List.take_add_one, h, app]
  show _ ++ Tm.flats [u] = _
  rw [Tm.flats, Tm.flats, List.append_nil]
theorem ded_app (a b : List Str) : ded (a ++ b) = b.foldl addS (ded a) := List.foldl_append ..
theorem ded_len : ∀ (l acc : List Str), (l.foldl addS acc).length ≤ acc.length + l.length
  | [], acc => Nat.le_refl _
  | s :: l, acc => by
    have h := ded_len l (addS acc s)
    have h2 : (addS acc s).length ≤ acc.length + 1 := by
      unfold addS
      split
      · omega
      · rw [List.length_append]; exact Nat.le_refl _
    rw [List.foldl_cons, List.length_cons]
    omega
def spNames (K : PySem.W.Frag) : Nat → Sp
  | 0 => fun _ _ _ _ => False
  | n + 1 => fun vs H Q _ => ∃ (v : V) (t : Tm), vs = [v] ∧ TmAt K H (n + 1) v t ∧ ArN (n + 1) t ∧ t.flat.length ≤ 1000 ∧ ∀ l H', Same H H' → H l = none → H' l = some (.lst ((ded t.flat).map V.str)) → Q (.ref l) H'
mutual
theorem flat_size : ∀ t : Tm, t.flat.length ≤ t.size
  | .ev s => by rw [Tm.flat, Tm.size]; exact Nat.le_refl _
  | .nd k ts => by
    rw [Tm.flat, Tm.size]
    have := flats_size ts
    omega
theorem flats_size : ∀ ts : List Tm, (Tm.flats ts).length ≤ Tm.sizes ts
  | [] => by rw [Tm.flats, Tm.sizes]; exact Nat.le_refl _
  | t :: ts => by
    rw [Tm.flats, Tm.sizes, List.length_append]
    have := flat_size t
    have := flats_size ts
    omega
end
/-! ### rationals -/
def toR (f : QQ) : Rat := Rat.divInt f.1 f.2
def ofR (q : Rat) : QQ := (q.num, (q.den : Int))
theorem low_ofR (q : Rat) : Low (ofR q) := by
  refine ⟨?_, ?_⟩
  · have := q.den_pos
    show (0 : Int) < (q.den : Int)
    omega
  · show Int.gcd q.num (q.den : Int) = 1
    have := q.reduced
    rw [Int.gcd_eq_natAbs_gcd_natAbs, Int.natAbs_natCast]
    exact this
theorem toR_ofR (q : Rat) : toR (ofR q) = q := Rat.num_divInt_den q
theorem red_R {n d : Int} (hd : d ≠ 0) : red n d = ofR (Rat.divInt n d) := by
  refine red_unique hd (low_ofR _).1 (low_ofR _).2 ?_
  show (Rat.divInt n d).num * d = n * ((Rat.divInt n d).den : Int)
  have h := Rat.num_divInt_den (Rat.divInt n d)
  have hz : ((Rat.divInt n d).den : Int) ≠ 0 := by have := (Rat.divInt n d).den_pos; omega
  exact (Rat.divInt_eq_divInt_iff hz hd).mp h
theorem ofR_toR {f : QQ} (h : Low f) : ofR (toR f) = f := by
  have e := red_R (n := f.1) (d := f.2) (by have := h.1; omega)
  rw [red_self h.1 h.2] at e
  exact e.symm
theorem den_ne (q : Rat) : (q.den : Int) ≠ 0 := by have := q.den_pos; omega
theorem radd_R (x y : Rat) : radd (ofR x) (ofR y) = ofR (x + y) := by
  show red (x.num * y.den + y.num * x.den) ((x.den : Int) * y.den) = _
  rw [red_R (Int.mul_ne_zero (den_ne x) (den_ne y)), ← Rat.divInt_add_divInt _ _ (den_ne x) (den_ne y), Rat.num_divInt_den, Rat.num_divInt_den]
theorem rsub_R (x y : Rat) : red (x.num * y.den - y.num * x.den) ((x.den : Int) * y.den) = ofR (x - y) := by
  rw [red_R (Int.mul_ne_zero (den_ne x) (den_ne y)), ← Rat.divInt_sub_divInt _ _ (den_ne x) (den_ne y), Rat.num_divInt_den, Rat.num_divInt_den]
theorem rmul_R (x y : Rat) : red (x.num * y.num) ((x.den : Int) * y.den) = ofR (x * y) := by
  rw [red_R (Int.mul_ne_zero (den_ne x) (den_ne y)), ← Rat.divInt_mul_divInt, Rat.num_divInt_den, Rat.num_divInt_den]
theorem rlt_R (x y : Rat) : rlt (ofR x) (ofR y) = decide (x < y) := by
  unfold rlt
  exact decide_eq_decide.mpr (Rat.lt_iff x y).symm
/-- the rational q, as a tuple, below 2 ^ B -/
def FR (K : PySem.W.Frag) (H : Hp) (v : V) (q : Rat) (B : Nat) : Prop := FrB K H v (ofR q).1 (ofR q).2 B
theorem FR.of {K : PySem.W.Frag} {H : Hp} {v : V} {f : QQ} {B : Nat} (h : FrB K H v f.1 f.2 B) : FR K H v (toR f) B := by
  have e := ofR_toR (f := f) ⟨h.d0, h.g⟩
  unfold FR
  rw [e]
  exact h
theorem FR.of' {K : PySem.W.Frag} {H : Hp} {v : V} {n d : Int} {B : Nat} (h : FrB K H v n d B) : FR K H v (toR (n, d)) B := FR.of (f := (n, d)) h
def Bt (q : Rat) (B : Nat) : Prop := (ofR q).1.natAbs < 2 ^ B ∧ (ofR q).2.natAbs < 2 ^ B
theorem FR.bt {K : PySem.W.Frag} {H : Hp} {v : V} {q : Rat} {B : Nat} (h : FR K H v q B) : Bt q B := ⟨h.nB, h.dB⟩
theorem Bt.up {q : Rat} {B C : Nat} (h : Bt q B) (l : B ≤ C) : Bt q C := ⟨Nat.lt_of_lt_of_le h.1 (Nat.pow_le_pow_right (by decide) l), Nat.lt_of_lt_of_le h.2 (Nat.pow_le_pow_right (by decide) l)⟩
theorem FR.mk {K : PySem.W.Frag} {H : Hp} {v : V} {q : Rat} {B : Nat} (f : Fr K H v (ofR q).1 (ofR q).2) (b : Bt q B) : FR K H v q B := ⟨f, (low_ofR q).1, (low_ofR q).2, b.1, b.2⟩
theorem FR.new {K : PySem.W.Frag} {H : Hp} {p : Addr} {q : Rat} {B : Nat} (b : Bt q B) : FR K (upd H p (.tup [.int (ofR q).1, .int (ofR q).2])) (.ref p) q B := FR.mk Fr.new b
theorem Bt.red {n d : Int} {B : Nat} (hd : d ≠ 0) (h1 : n.natAbs < 2 ^ B) (h2 : d.natAbs < 2 ^ B) : Bt (Rat.divInt n d) B := by
  have e := red_R (n := n) hd
  refine ⟨?_, ?_⟩
  · rw [← e]; exact Nat.lt_of_le_of_lt (red_le1 hd) h1
  · rw [← e]; exact Nat.lt_of_le_of_lt (red_le2 hd) h2
theorem Bt.add {x y : Rat} {A B : Nat} (hx : Bt x A) (hy : Bt y B) : Bt (x + y) (A + B + 1) := by
  have e : x + y = Rat.divInt (x.num * y.den + y.num * x.den) ((x.den : Int) * y.den) := by rw [← Rat.divInt_add_divInt _ _ (den_ne x) (den_ne y), Rat.num_divInt_den, Rat.num_divInt_den]
  rw [e]
  have h1 : x.num.natAbs < 2 ^ A := hx.1
  have h2 : (x.den : Int).natAbs < 2 ^ A := hx.2
  have h3 : y.num.natAbs < 2 ^ B := hy.1
  have h4 : (y.den : Int).natAbs < 2 ^ B := hy.2
  have m : ∀ {a b : Nat}, a < 2 ^ A → b < 2 ^ B → a * b < 2 ^ (A + B) := fun ha hb => by rw [Nat.pow_add]; exact Nat.mul_lt_mul'' ha hb
  refine Bt.red (Int.mul_ne_zero (den_ne x) (den_ne y)) ?_ ?_
  · have k1 : (x.num * (y.den : Int)).natAbs < 2 ^ (A + B) := by rw [Int.natAbs_mul]; exact m h1 h4
    have k2 : (y.num * (x.den : Int)).natAbs < 2 ^ (A + B) := by rw [Int.natAbs_mul, Nat.mul_comm]; exact m h2 h3
    rw [Nat.pow_succ]
    omega
  · have k : ((x.den : Int) * (y.den : Int)).natAbs < 2 ^ (A + B) := by rw [Int.natAbs_mul]; exact m h2 h4
    rw [Nat.pow_succ]
    omega
theorem Bt.mul {x y : Rat} {A B : Nat} (hx : Bt x A) (hy : Bt y B) : Bt (x * y) (A + B) := by
  have e : x * y = Rat.divInt (x.num * y.num) ((x.den : Int) * y.den) := by rw [← Rat.divInt_mul_divInt, Rat.num_divInt_den, Rat.num_divInt_den]
  rw [e]
  have m : ∀ {a b : Nat}, a < 2 ^ A → b < 2 ^ B → a * b < 2 ^ (A + B) := fun ha hb => by rw [Nat.pow_add]; exact Nat.mul_lt_mul'' ha hb
  refine Bt.red (Int.mul_ne_zero (den_ne x) (den_ne y)) ?_ ?_
  · rw [Int.natAbs_mul]; exact m hx.1 hy.1
  · rw [Int.natAbs_mul]; exact m hx.2 hy.2
theorem Bt.neg {x : Rat} {A : Nat} (hx : Bt x A) : Bt (-x) A := by
  refine ⟨?_, ?_⟩
  · show ((-x).num).natAbs < 2 ^ A
    rw [Rat.neg_num, Int.natAbs_neg]; exact hx.1
  · show ((-x).den : Int).natAbs < 2 ^ A
    rw [Rat.neg_den]; exact hx.2
theorem Bt.sub {x y : Rat} {A B : Nat} (hx : Bt x A) (hy : Bt y B) : Bt (x - y) (A + B + 1) := by
  rw [Rat.sub_eq_add_neg]
  exact hx.add hy.neg
theorem bt0 {B : Nat} : Bt 0 (B + 1) := by
  have : (2 : Nat) ≤ 2 ^ (B + 1) := Nat.le_trans (by decide) (Nat.pow_le_pow_right (by decide) (show 1 ≤ B + 1 by omega))
  exact ⟨by show (0 : Nat) < _; omega, by show (1 : Nat) < _; omega⟩
/-- what is called with a rational -/
theorem FR.up {K : PySem.W.Frag} {H : Hp} {v : V} {q : Rat} {B C : Nat} (f : FR K H v q B) (h : B ≤ C) : FR K H v q C := FR.mk f.fr (f.bt.up h)
theorem FR.same {K : PySem.W.Frag} {H H' : Hp} {v : V} {q : Rat} {B : Nat} (f : FR K H v q B) (k : Same H H') : FR K H' v q B := FrB.same f k
theorem FR.kp {K : PySem.W.Frag} {H H' : Hp} {r : Addr} {v : V} {q : Rat} {B : Nat} (f : FR K H v q B) (R : Rg H r) (k : Kp r H H') : FR K H' v q B := FrB.kp f R k
theorem FR.put {K : PySem.W.Frag} {H : Hp} {v : V} {q : Rat} {B : Nat} {D : Addr} {l l' : List V} (f : FR K H v q B) (hD : H D = some (.lst l)) : FR K (upd H D (.lst l')) v q B := FrB.put' f hD
/-- a list of rationals -/
def FRs (K : PySem.W.Frag) (H : Hp) (xs : List V) (qs : List Rat) (B : Nat) : Prop := Frs K H xs (qs.map ofR) B
theorem FRs.len {K : PySem.W.Frag} {H : Hp} {xs : List V} {qs : List Rat} {B : Nat} (h : FRs K H xs qs B) : xs.length = qs.length := by
  have := h.1
  rw [List.length_map] at this
  exact this
theorem FRs.nil {K : PySem.W.Frag} {H : Hp} {B : Nat} : FRs K H [] [] B := Frs.nil'
theorem FRs.cons {K : PySem.W.Frag} {H : Hp} {x : V} {q : Rat} {xs : List V} {qs : List Rat} {B : Nat} (h : FR K H x q B) (t : FRs K H xs qs B) : FRs K H (x :: xs) (q :: qs) B := Frs.cons' (f := ofR q) h t
theorem FRs.at {K : PySem.W.Frag} {H : Hp} {xs : List V} {qs : List Rat} {B : Nat} (h : FRs K H xs qs B) {i : Nat} {x : V} {q : Rat} (hx : xs[i]? = some x) (hq : qs[i]? = some q) : FR K H x q B := h.2 i x (ofR q) hx (by rw [List.getElem?_map, hq]; rfl)
theorem FRs.app {K : PySem.W.Frag} {H : Hp} {xs ys : List V} {qs rs : List Rat} {B : Nat} (a : FRs K H xs qs B) (b : FRs K H ys rs B) : FRs K H (xs ++ ys) (qs ++ rs) B := by
  unfold FRs
  rw [List.map_append]
  exact Frs.app' a b
theorem FRs.snoc {K : PySem.W.Frag} {H : Hp} {xs : List V} {qs : List Rat} {x : V} {q : Rat} {B : Nat} (a : FRs K H xs qs B) (h : FR K H x q B) : FRs K H (xs ++ [x]) (qs ++ [q]) B := a.app (FRs.cons h FRs.nil)
theorem FRs.mono {K : PySem.W.Frag} {H H' : Hp} {xs : List V} {qs : List Rat} {B C : Nat} (a : FRs K H xs qs B) (h : ∀ v q, FR K H v q B → FR K H' v q C) : FRs K H' xs qs C := ⟨a.1, fun i x f hx hf => by
  rw [List.getElem?_map] at hf
  cases e : qs[i]? with
  | none => rw [e] at hf; cases hf
  | some q => rw [e] at hf; cases hf; exact h x q (a.at hx e)⟩
theorem FRs.get {K : PySem.W.Frag} {H : Hp} {xs : List V} {qs : List Rat} {B : Nat} (h : FRs K H xs qs B) {i : Nat} {x : V} (hx : xs[i]? = some x) : ∃ q, qs[i]? = some q ∧ FR K H x q B := by
  have l : i < qs.length := by rw [← h.len]; exact (List.getElem?_eq_some_iff.mp hx).1
  exact ⟨qs[i], List.getElem?_eq_getElem l, h.at hx (List.getElem?_eq_getElem l)⟩
/-! ### the value of a term -/
def lmax : List Rat → Rat
  | [] => 0
  | [x] => x
  | x :: xs => max x (lmax xs)
def lmin : List Rat → Rat
  | [] => 0
  | [x] => x
  | x :: xs => min x (lmin xs)
/-- the second largest of three -/
def med3 (x y z : Rat) : Rat := max (min x y) (min (max x y) z)
def lmed : List Rat → Rat
  | [x, y, z] => med3 x y z
  | _ => 0
def lmix : List Rat → List Rat → Rat
  | w :: ws, x :: xs => w * x + lmix ws xs
  | _, _ => 0
def Kd.comb : Kd → List Rat → Rat
  | .delay f, xs => lmax xs + toR f
  | .max, xs => lmax xs
  | .min, xs => lmin xs
  | .median, xs => lmed xs
  | .mix ws, xs => lmix (ws.map toR) xs
mutual
def Tm.val (ρ : Str → Rat) : Tm → Rat
  | .ev s => ρ s
  | .nd k ts => k.comb (Tm.vals ρ ts)
def Tm.vals (ρ : Str → Rat) : List Tm → List Rat
  | [] => []
  | t :: ts => t.val ρ :: Tm.vals ρ ts
end
theorem vals_map (ρ : Str → Rat) : ∀ ts : List Tm, Tm.vals ρ ts = ts.map (Tm.val ρ)
  | [] => by rw [Tm.vals]; rfl
  | t :: ts => by rw [Tm.vals, vals_map ρ ts]; rfl
/-! ### order, shift -/
def Le2 (xs ys : List Rat) : Prop := xs.length = ys.length ∧ ∀ (i : Nat) x y, xs[i]? = some x → ys[i]? = some y → x ≤ y
theorem Le2.uncons {x y : Rat} {xs ys : List Rat} (h : Le2 (x :: xs) (y :: ys)) : x ≤ y ∧ Le2 xs ys := ⟨h.2 0 x y rfl rfl, by have := h.1; simpa using this, fun i a b ha hb => h.2 (i + 1) a b ha hb⟩
theorem lmax_mono : ∀ {xs ys : List Rat}, Le2 xs ys → lmax xs ≤ lmax ys
  | [], [], _ => Rat.le_refl
  | [], _ :: _, h => by have := h.1; cases this
  | _ :: _, [], h => by have := h.1; cases this
  | [x], [y], h => h.uncons.1
  | [x], _ :: _ :: _, h => by have := h.1; cases this
  | _ :: _ :: _, [y], h => by have := h.1; cases this
  | x :: a :: xs, y :: b :: ys, h => by
    have i := lmax_mono h.uncons.2
    have j := h.uncons.1
    show max x (lmax (a :: xs)) ≤ max y (lmax (b :: ys))
    generalize lmax (a :: xs) = u at *
    generalize lmax (b :: ys) = v at *
    rw [Rat.max_def, Rat.max_def]
    grind
theorem lmin_mono : ∀ {xs ys : List Rat}, Le2 xs ys → lmin xs ≤ lmin ys
  | [], [], _ => Rat.le_refl
  | [], _ :: _, h => by have := h.1; cases this
  | _ :: _, [], h => by have := h.1; cases this
  | [x], [y], h => h.uncons.1
  | [x], _ :: _ :: _, h => by have := h.1; cases this
  | _ :: _ :: _, [y], h => by have := h.1; cases this
  | x :: a :: xs, y :: b :: ys, h => by
    have i := lmin_mono h.uncons.2
    have j := h.uncons.1
    show min x (lmin (a :: xs)) ≤ min y (lmin (b :: ys))
    generalize lmin (a :: xs) = u at *
    generalize lmin (b :: ys) = v at *
    rw [Rat.min_def, Rat.min_def]
    grind
theorem med3_mono {x y z x' y' z' : Rat} (h1 : x ≤ x') (h2 : y ≤ y') (h3 : z ≤ z') : med3 x y z ≤ med3 x' y' z' := by
  unfold med3
  simp only [Rat.max_def, Rat.min_def]
  grind
theorem lmed_mono : ∀ {xs ys : List Rat}, Le2 xs ys → lmed xs ≤ lmed ys := by
  intro xs ys h
  unfold lmed
  split
  · rename_i x y z
    match ys, h with
    | [x', y', z'], h => exact med3_mono h.uncons.1 h.uncons.2.uncons.1 h.uncons.2.uncons.2.uncons.1
    | [], h => have := h.1; cases this
    | [_], h => have := h.1; cases this
    | [_, _], h => have := h.1; cases this
    | _ :: _ :: _ :: _ :: _, h => have := h.1; cases this
  · rename_i ne
    split
    · rename_i x y z
      match xs, h, ne with
      | [a, b, c], _, ne => exact absurd rfl (ne a b c)
      | [], h, _ => have := h.1; cases this
      | [_], h, _ => have := h.1; cases this
      | [_, _], h, _ => have := h.1; cases this
      | _ :: _ :: _ :: _ :: _, h, _ => have := h.1; cases this
    · exact Rat.le_refl
theorem lmix_mono : ∀ {ws xs ys : List Rat}, (∀ w ∈ ws, 0 ≤ w) → Le2 xs ys → lmix ws xs ≤ lmix ws ys
  | [], xs, ys, _, _ => by cases xs <;> cases ys <;> exact Rat.le_refl
  | w :: ws, [], [], _, _ => Rat.le_refl
  | w :: ws, [], _ :: _, _, h => by have := h.1; cases this
  | w :: ws, _ :: _, [], _, h => by have := h.1; cases this
  | w :: ws, x :: xs, y :: ys, hw, h => by
    have i := lmix_mono (fun v hv => hw v (List.mem_cons_of_mem _ hv)) h.uncons.2
    have j := Rat.mul_le_mul_of_nonneg_left h.uncons.1 (hw w List.mem_cons_self)
    show w * x + lmix ws xs ≤ w * y + lmix ws ys
    grind
theorem lmax_shift (c : Rat) : ∀ {xs : List Rat}, xs ≠ [] → lmax (xs.map (· + c)) = lmax xs + c
  | [], h => absurd rfl h
  | [x], _ => rfl
  | x :: a :: xs, _ => by
    have i := lmax_shift c (xs := a :: xs) (by simp)
    show max (x + c) (lmax ((a :: xs).map (· + c))) = max x (lmax (a :: xs)) + c
    rw [i]
    generalize lmax (a :: xs) = u
    simp only [Rat.max_def]
    grind
theorem lmin_shift (c : Rat) : ∀ {xs : List Rat}, xs ≠ [] → lmin (xs.map (· + c)) = lmin xs + c
  | [], h => absurd rfl h
  | [x], _ => rfl
  | x :: a :: xs, _ => by
    have i := lmin_shift c (xs := a :: xs) (by simp)
    show min (x + c) (lmin ((a :: xs).map (· + c))) = min x (lmin (a :: xs)) + c
    rw [i]
    generalize lmin (a :: xs) = u
    simp only [Rat.min_def]
    grind
theorem med3_shift (c x y z : Rat) : med3 (x + c) (y + c) (z + c) = med3 x y z + c := by
  unfold med3
  simp only [Rat.max_def, Rat.min_def]
  grind
theorem lmix_shift (c : Rat) : ∀ {ws xs : List Rat}, ws.length = xs.length → lmix ws (xs.map (· + c)) = lmix ws xs + ws.sum * c
  | [], [], _ => by show (0 : Rat) = 0 + (0 : Rat) * c; grind
  | [], _ :: _, h => by cases h
  | _ :: _, [], h => by cases h
  | w :: ws, x :: xs, h => by
    have i := lmix_shift c (ws := ws) (xs := xs) (by simpa using h)
    show w * (x + c) + lmix ws (xs.map (· + c)) = w * x + lmix ws xs + (w :: ws).sum * c
    rw [i, List.sum_cons]
    grind
/-! ### promises over rationals -/
def spAddR (K : PySem.W.Frag) : Sp := fun vs H Q _ => ∃ (v1 v2 : V) (x y : Rat), vs = [v1, v2] ∧ FR K H v1 x 3900 ∧ FR K H v2 y 3900 ∧ ∀ p, H p = none → Q (.ref p) (upd H p (.tup [.int (ofR (x + y)).1, .int (ofR (x + y)).2]))
def spSubR (K : PySem.W.Frag) : Sp := fun vs H Q _ => ∃ (v1 v2 : V) (x y : Rat), vs = [v1, v2] ∧ FR K H v1 x 3900 ∧ FR K H v2 y 3900 ∧ ∀ p, H p = none → Q (.ref p) (upd H p (.tup [.int (ofR (x - y)).1, .int (ofR (x - y)).2]))
def spMulR (K : PySem.W.Frag) : Sp := fun vs H Q _ => ∃ (v1 v2 : V) (x y : Rat), vs = [v1, v2] ∧ FR K H v1 x 3900 ∧ FR K H v2 y 3900 ∧ ∀ p, H p = none → Q (.ref p) (upd H p (.tup [.int (ofR (x * y)).1, .int (ofR (x * y)).2]))
theorem lmax_eq : ∀ {qs : List Rat} {j : Nat} {q : Rat}, qs[j]? = some q → (∀ (i : Nat) g, qs[i]? = some g → g ≤ q) → lmax qs = q
  | [], j, q, h, _ => by cases h
  | [x], j, q, h, k => by
    cases j with
    | zero => cases h; rfl
    | succ j => cases h
  | x :: y :: qs, j, q, h, k => by
    show max x (lmax (y :: qs)) = q
    have hx := k 0 x rfl
    cases j with
    | zero =>
      cases h
      have up : ∀ {l : List Rat}, l ≠ [] → (∀ (i : Nat) g, l[i]? = some g → g ≤ x) → lmax l ≤ x := by
        intro l
        induction l with
        | nil => intro h; exact absurd rfl h
        | cons a l ih =>
          intro _ h
          cases l with
          | nil => exact h 0 a rfl
          | cons b l =>
            show max a (lmax (b :: l)) ≤ x
            have h1 := h 0 a rfl
            have h2 := ih (by simp) fun i g hg => h (i + 1) g hg
            rw [Rat.max_def]
            split <;> assumption
      have h2 := up (l := y :: qs) (by simp) fun i g hg => k (i + 1) g hg
      rw [Rat.max_def]
      grind
    | succ j =>
      rw [lmax_eq (qs := y :: qs) (j := j) h fun i g hg => k (i + 1) g hg, Rat.max_def]
      grind
theorem lmin_eq : ∀ {qs : List Rat} {j : Nat} {q : Rat}, qs[j]? = some q → (∀ (i : Nat) g, qs[i]? = some g → q ≤ g) → lmin qs = q
  | [], j, q, h, _ => by cases h
  | [x], j, q, h, k => by
    cases j with
    | zero => cases h; rfl
    | succ j => cases h
  | x :: y :: qs, j, q, h, k => by
    show min x (lmin (y :: qs)) = q
    have hx := k 0 x rfl
    cases j with
    | zero =>
      cases h
      have up : ∀ {l : List Rat}, l ≠ [] → (∀ (i : Nat) g, l[i]? = some g → x ≤ g) → x ≤ lmin l := by
        intro l
        induction l with
        | nil => intro h; exact absurd rfl h
        | cons a l ih =>
          intro _ h
          cases l with
          | nil => exact h 0 a rfl
          | cons b l =>
            show x ≤ min a (lmin (b :: l))
            have h1 := h 0 a rfl
            have h2 := ih (by simp) fun i g hg => h (i + 1) g hg
            rw [Rat.min_def]
            split <;> assumption
      have h2 := up (l := y :: qs) (by simp) fun i g hg => k (i + 1) g hg
      rw [Rat.min_def]
      grind
    | succ j =>
      rw [lmin_eq (qs := y :: qs) (j := j) h fun i g hg => k (i + 1) g hg, Rat.min_def]
      grind
theorem fst_R {lt : QQ → QQ → Bool} {qs : List Rat} {j : Nat} (f : Fst lt (qs.map ofR) j) : ∃ q, qs[j]? = some q ∧ ∀ (i : Nat) g, qs[i]? = some g → lt (ofR q) (ofR g) = false := by
  obtain ⟨f, e, k, _⟩ := f
  rw [List.getElem?_map] at e
  cases h : qs[j]? with
  | none => rw [h] at e; cases e
  | some q =>
    rw [h] at e
    cases e
    exact ⟨q, rfl, fun i g hg => k i (ofR g) (by rw [List.getElem?_map, hg]; rfl)⟩
theorem max_R {qs : List Rat} {j : Nat} (f : Fst rlt (qs.map ofR) j) : qs[j]? = some (lmax qs) := by
  obtain ⟨q, h, k⟩ := fst_R f
  rw [lmax_eq h fun i g hg => by
    have z := k i g hg
    rw [rlt_R] at z
    exact Rat.not_lt.mp (of_decide_eq_false z)]
  exact h
theorem min_R {qs : List Rat} {j : Nat} (f : Fst (fun a b => rlt b a) (qs.map ofR) j) : qs[j]? = some (lmin qs) := by
  obtain ⟨q, h, k⟩ := fst_R f
  rw [lmin_eq h fun i g hg => by
    have z := k i g hg
    rw [rlt_R] at z
    exact Rat.not_lt.mp (of_decide_eq_false z)]
  exact h
/-- the place of the greatest, the least -/
def spIx (K : PySem.W.Frag) (best : List Rat → Rat) : Sp := fun vs H Q _ => ∃ (p : Addr) (xs : List V) (qs : List Rat), vs = [.ref p] ∧ Sq K H p xs ∧ FRs K H xs qs 3900 ∧ 0 < xs.length ∧ ∀ (j : Nat) H', Same H H' → qs[j]? = some (best qs) → Q (.int (j : Nat)) H'
/-- the greatest, the least itself -/
def spBest (K : PySem.W.Frag) (best : List Rat → Rat) : Sp := fun vs H Q _ => ∃ (p : Addr) (xs : List V) (qs : List Rat) (B : Nat), vs = [.ref p] ∧ SqL K H p xs ∧ FRs K H xs qs B ∧ B ≤ 20000 ∧ 0 < xs.length ∧ ∀ v, v ∈ xs → FR K H v (best qs) B → Q v H
/-- sums -/
theorem bt_up0 {B : Nat} (h : 0 < B) : Bt 0 B := by
  cases B with
  | zero => cases h
  | succ B => exact bt0
/-! ### terms and tables -/
mutual
def Tm.bt (b : Nat) : Tm → Nat
  | .ev _ => b
  | .nd _ ts => ts.length * (Tm.bm b ts + 41) + 2
def Tm.bm (b : Nat) : List Tm → Nat
  | [] => 0
  | t :: ts => Nat.max (t.bt b) (Tm.bm b ts)
end
theorem bm_ge {b : Nat} : ∀ {ts : List Tm} {u : Tm}, u ∈ ts → u.bt b ≤ Tm.bm b ts
  | t :: ts, u, h => by
    rw [Tm.bm]
    rcases List.mem_cons.mp h with z | z
    · rw [z]; exact Nat.le_max_left _ _
    · exact Nat.le_trans (bm_ge z) (Nat.le_max_right _ _)
theorem bm_le {b B : Nat} : ∀ {ts : List Tm}, (∀ t ∈ ts, t.bt b ≤ B) → Tm.bm b ts ≤ B
  | [], _ => by rw [Tm.bm]; exact Nat.zero_le _
  | t :: ts, h => by
    rw [Tm.bm]
    exact Nat.max_le.mpr ⟨h t List.mem_cons_self, bm_le fun u hu => h u (List.mem_cons_of_mem _ hu)⟩
/-- fit for evaluation -/
def VOk : Nat → Tm → Prop
  | 0, _ => False
  | _ + 1, .ev _ => True
  | n + 1, .nd k ts => ((1 ≤ ts.length ∧ ts.length ≤ 60) ∧ (k = .median → ts.length = 3)) ∧ ∀ t ∈ ts, VOk n t
theorem VOk.arN : ∀ {n : Nat} {t : Tm}, VOk n t → ArN n t
  | 0, _, h => h
  | n + 1, .ev _, _ => trivial
  | n + 1, .nd k ts, h => ⟨h.1.1, fun t ht => (h.2 t ht).arN⟩
theorem VOk.up : ∀ {n : Nat} {t : Tm}, VOk n t → VOk (n + 1) t
  | 0, _, h => h.elim
  | n + 1, .ev _, _ => trivial
  | n + 1, .nd k ts, h => ⟨h.1, fun t ht => (h.2 t ht).up⟩
theorem VOk.le {n m : Nat} (l : n ≤ m) {t : Tm} (h : VOk n t) : VOk m t := by
  induction l with
  | refl => exact h
  | step _ ih => exact ih.up
theorem Good.vok {ss : List Str} : ∀ {n : Nat} {t : Tm}, Good ss n t → VOk n t
  | 0, _, h => h
  | n + 1, .ev s, h => trivial
  | n + 1, .nd k ts, h => ⟨⟨Good.ar (n := n + 1) (t := .nd k ts) h, fun e => by have := h.1; rw [e] at this; exact this⟩, fun t ht => (h.2 t ht).vok⟩
def btG (b : Nat) : Nat → Nat
  | 0 => b
  | n + 1 => 3 * (btG b n + 41) + 2
theorem btG_ge (b : Nat) : ∀ n, b ≤ btG b n
  | 0 => Nat.le_refl _
  | n + 1 => by have := btG_ge b n; rw [btG]; omega
theorem Good.bt {ss : List Str} {b : Nat} : ∀ {n : Nat} {t : Tm}, Good ss (n + 1) t → t.bt b ≤ btG b n
  | n, .ev s, _ => by rw [Tm.bt]; exact btG_ge b n
  | 0, .nd k ts, h => by
    exfalso
    have h1 := (Good.ar (n := 1) (t := .nd k ts) h).1
    obtain ⟨u, hu⟩ : ∃ u, u ∈ ts := by
      cases ts with
      | nil => exact absurd h1 (by simp)
      | cons u _ => exact ⟨u, List.mem_cons_self⟩
    exact h.2 u hu
  | n + 1, .nd k ts, h => by
    have h3 := h.1.three
    have hb := bm_le (b := b) (B := btG b n) fun t ht => (h.2 t ht).bt
    have m1 := Nat.mul_le_mul h3 (Nat.add_le_add_right hb 41)
    rw [Tm.bt, btG]
    omega
def Tbl (K : PySem.W.Frag) (H : Hp) (d : Addr) (ρ : Str → Rat) (ss : List Str) (b : Nat) : Prop := ∃ kvs : List (Key × V), H d = some (.dK kvs) ∧ ∀ s ∈ ss, ∃ v, valV kvs (Sum.inr s : Key) = some v ∧ FR K H v (ρ s) b
theorem Tbl.same {K : PySem.W.Frag} {H H' : Hp} {d : Addr} {ρ : Str → Rat} {ss : List Str} {b : Nat} (h : Tbl K H d ρ ss b) (s : Same H H') : Tbl K H' d ρ ss b := by
  obtain ⟨kvs, e, k⟩ := h
  exact ⟨kvs, s _ _ e, fun x hx => by obtain ⟨v, h1, h2⟩ := k x hx; exact ⟨v, h1, h2.same s⟩⟩
theorem Tbl.sub {K : PySem.W.Frag} {H : Hp} {d : Addr} {ρ : Str → Rat} {ss ts : List Str} {b : Nat} (h : Tbl K H d ρ ss b) (k : ∀ s ∈ ts, s ∈ ss) : Tbl K H d ρ ts b := by
  obtain ⟨kvs, e, z⟩ := h
  exact ⟨kvs, e, fun x hx => z x (k x hx)⟩
theorem Tbl.kp {K : PySem.W.Frag} {H H' : Hp} {r d : Addr} {ρ : Str → Rat} {ss : List Str} {b : Nat} (h : Tbl K H d ρ ss b) (R : Rg H r) (k : Kp r H H') : Tbl K H' d ρ ss b := by
  obtain ⟨kvs, e, z⟩ := h
  have dr : d ≠ r := by
    obtain ⟨c, ns, i, x, kk, R⟩ := R
    exact ne_of e R.hr fun z => by cases z
  exact ⟨kvs, k.1 _ _ dr e, fun x hx => by obtain ⟨v, h1, h2⟩ := z x hx; exact ⟨v, h1, h2.kp R k⟩⟩
theorem flat_mem {ts : List Tm} : ∀ {u : Tm}, u ∈ ts → ∀ s ∈ u.flat, s ∈ Tm.flats ts := by
  induction ts with
  | nil => intro u h; cases h
  | cons t ts ih =>
    intro u h s hs
    rw [Tm.flats]
    rcases List.mem_cons.mp h with z | z
    · rw [z] at hs; exact List.mem_append_left _ hs
    · exact List.mem_append_right _ (ih z s hs)
def spVal (K : PySem.W.Frag) : Nat → Sp
  | 0 => fun _ _ _ _ => False
  | n + 1 => fun vs H Q _ => ∃ (v : V) (d : Addr) (t : Tm) (ρ : Str → Rat) (b : Nat), vs = [v, .ref d] ∧ TmAt K H (n + 1) v t ∧ VOk (n + 1) t ∧ t.bt b ≤ 3900 ∧ Tbl K H d ρ t.flat b ∧ ∀ u H', Same H H' → FR K H' u (t.val ρ) (t.bt b) → Q u H'
theorem TmAt.hd {K : PySem.W.Frag} {H : Hp} {n : Nat} {v : V} {k : Kd} {ts : List Tm} (ht : TmAt K H (n + 1) v (.nd k ts)) : ∃ p ys, v = .ref p ∧ SqT K H p (.str (kdS k) :: ys) := by
  obtain ⟨xs, hN, _⟩ := ht
  cases k with
  | delay f => obtain ⟨p, x, fv, _, e, hp, _⟩ := hN; exact ⟨p, _, e, hp⟩
  | max => obtain ⟨p, e, hp⟩ := hN; exact ⟨p, _, e, hp⟩
  | min => obtain ⟨p, e, hp⟩ := hN; exact ⟨p, _, e, hp⟩
  | median => obtain ⟨p, e, hp⟩ := hN; exact ⟨p, _, e, hp⟩
  | mix ws => obtain ⟨p, ys, e, hp, _⟩ := hN; exact ⟨p, _, e, hp⟩
theorem kd_ev (k : Kd) : decide (kdS k = ("event" : Str)) = false := by
  cases k with
  | delay f => exact (show decide (("delay" : Str) = "event") = false by decide +kernel)
  | max => exact (show decide (("max" : Str) = "event") = false by decide +kernel)
  | min => exact (show decide (("min" : Str) = "event") = false by decide +kernel)
  | median => exact (show decide (("median" : Str) = "event") = false by decide +kernel)
  | mix ws => exact (show decide (("mix" : Str) = "event") = false by decide +kernel)
theorem sum_lmix : ∀ (ws xs : List Rat) (s : Rat), (List.zipWith (· * ·) ws xs).foldl (· + ·) s = s + lmix ws xs
  | [], xs, s => by
    cases xs <;> (show s = s + (0 : Rat); grind)
  | w :: ws, [], s => by show s = s + (0 : Rat); grind
  | w :: ws, x :: xs, s => by
    show (List.zipWith (· * ·) ws xs).foldl (· + ·) (s + w * x) = s + (w * x + lmix ws xs)
    rw [sum_lmix ws xs]
    grind
theorem fr_zero {K : PySem.W.Frag} {H : Hp} {p : Addr} (h : SqT K H p [.int 0, .int 1]) : FR K H (.ref p) 0 1 := FR.mk ⟨p, rfl, h⟩ (bt0 (B := 0))
/-! ### distances -/
def rabs (x : Rat) : Rat := if x < 0 then -x else x
theorem rabs_of (x : Rat) : ofR (rabs x) = ((if (ofR x).1 < 0 then -(ofR x).1 else (ofR x).1), (ofR x).2) := by
  unfold rabs ofR
  have e : x < 0 ↔ x.num < 0 := by
    rw [Rat.lt_iff]
    show x.num * 1 < 0 * (x.den : Int) ↔ _
    rw [Int.mul_one, Int.zero_mul]
  by_cases h : x < 0
  · rw [if_pos h, if_pos (e.mp h), Rat.neg_num, Rat.neg_den]
  · rw [if_neg h, if_neg (fun z => h (e.mpr z))]
theorem Bt.abs {x : Rat} {B : Nat} (h : Bt x B) : Bt (rabs x) B := by
  unfold rabs
  split
  · exact h.neg
  · exact h
theorem rabs_le {x c : Rat} (h : rabs x ≤ c) : x ≤ c ∧ -x ≤ c := by
  unfold rabs at h
  split at h <;> grind
theorem rabs_of_le {x c : Rat} (h1 : x ≤ c) (h2 : -x ≤ c) : rabs x ≤ c := by
  unfold rabs
  split <;> assumption
theorem lmax_ge : ∀ {qs : List Rat} {q : Rat}, q ∈ qs → q ≤ lmax qs
  | [x], q, h => by rw [List.mem_singleton.mp h]; exact Rat.le_refl
  | x :: y :: qs, q, h => by
    show q ≤ max x (lmax (y :: qs))
    rcases List.mem_cons.mp h with z | z
    · rw [z, Rat.max_def]; grind
    · have := lmax_ge z
      rw [Rat.max_def]
      grind

/-! ### tables drawn pair by pair -/
def DTab (K : PySem.W.Frag) (H : Hp) (D : Addr) (ss : List Str) (i : Nat) (qs : List Rat) (b : Nat) : Prop := ∃ (pas : List Addr) (vs : List V), H D = some (.lst (pas.map V.ref)) ∧ pas.length = i ∧ vs.length = i ∧ FRs K H vs qs b ∧ ∀ (j : Nat) p s v, pas[j]? = some p → ss[j]? = some s → vs[j]? = some v → SqT K H p [.str s, v]
theorem DTab.nil {K : PySem.W.Frag} {H : Hp} {D : Addr} {ss : List Str} {b : Nat} : DTab K (upd H D (.lst [])) D ss 0 [] b := ⟨[], [], upd_same, rfl, rfl, FRs.nil, fun j p s v h => by cases h⟩
theorem SqT.put {K : PySem.W.Frag} {H : Hp} {D p : Addr} {l l' xs : List V} (h : SqT K H p xs) (hD : H D = some (.lst l)) : SqT K (upd H D (.lst l')) p xs := by
  rcases h with (z | ⟨o, z⟩) | z
  · exact .inl (.inl (by rw [upd_ne (ne_of z hD (fun y => by cases y))]; exact z))
  · exact .inl (.inr ⟨o, by rw [upd_ne (ne_of z hD (fun y => by cases y))]; exact z⟩)
  · exact .inr z
/-- one pair more: what stood at H1 stands at H2, there the pair (s, v) is made at p -/
theorem DTab.more {K : PySem.W.Frag} {H1 H2 : Hp} {D : Addr} {ss : List Str} {i : Nat} {qs : List Rat} {b : Nat} {s : Str} {v : V} {q : Rat} {p : Addr} (h : DTab K H1 D ss i qs b) (hi : i < 1000) (hs : ss[i]? = some s) (fD : ∀ l, H1 D = some (.lst l) → H2 D = some (.lst l)) (fT : ∀ p xs, SqT K H1 p xs → SqT K H2 p xs) (fv : FR K H2 v q b) (np : H2 p = none) :
    ∃ acc, (upd H2 p (.tup [.str s, v])) D = some (.lst acc) ∧ acc.length < sizeLine ∧ DTab K (upd (upd H2 p (.tup [.str s, v])) D (.lst (acc ++ [.ref p]))) D ss (i + 1) (qs ++ [q]) b := by
  obtain ⟨pas, vs, hD, l1, l2, hF, hP⟩ := h
  have sp := Same.new (o := .tup [.str s, v]) np
  have hD2 := sp _ _ (fD _ hD)
  refine ⟨_, hD2, by rw [List.length_map, l1]; exact szl (by omega), pas ++ [p], vs ++ [v], by rw [upd_same, List.map_append]; rfl, by rw [List.length_append, l1]; rfl, by rw [List.length_append, l2]; rfl, ?_, ?_⟩
  · exact FRs.snoc ⟨hF.1, fun j x f a c => by
      rw [List.getElem?_map] at c
      cases e : qs[j]? with
      | none => rw [e] at c; cases c
      | some q => rw [e] at c; cases c; exact FR.put (FR.same ⟨(by obtain ⟨a', e', z⟩ := (hF.at a e).fr; exact ⟨a', e', fT _ _ z⟩), (hF.at a e).d0, (hF.at a e).g, (hF.at a e).nB, (hF.at a e).dB⟩ sp) hD2⟩ ((fv.same sp).put hD2)
  · intro j p' s' v' e1 e2 e3
    by_cases hj : j < i
    · rw [List.getElem?_append_left (by omega)] at e1 e3
      exact SqT.put (Same.T sp (fT _ _ (hP j p' s' v' e1 e2 e3))) hD2
    · have ej : j = i := by
        have := (List.getElem?_eq_some_iff.mp e1).1
        rw [List.length_append, l1] at this
        have : j < i + 1 := this
        omega
      subst ej
      rw [List.getElem?_append_right (by omega), l1, Nat.sub_self] at e1
      rw [List.getElem?_append_right (by omega), l2, Nat.sub_self] at e3
      cases e1; cases e3
      rw [hs] at e2; cases e2
      exact SqT.put (SqT.of upd_same) hD2
def kvz (ss : List Str) (vs : List V) : List (Key × V) := (ss.zip vs).map fun z => (Sum.inr z.1, z.2)
theorem paired_of {K : PySem.W.Frag} {H : Hp} : ∀ {pas : List Addr} {ss : List Str} {vs : List V}, pas.length = ss.length → vs.length = ss.length → (∀ (j : Nat) p s v, pas[j]? = some p → ss[j]? = some s → vs[j]? = some v → SqT K H p [.str s, v]) → Paired (fun p kv => SqT K H p [kV kv.1, kv.2]) pas (kvz ss vs)
  | [], [], [], _, _, _ => .nil
  | p :: pas, s :: ss, v :: vs, l1, l2, h => .cons (h 0 p s v rfl rfl rfl) (paired_of (by simpa using l1) (by simpa using l2) fun j p' s' v' e1 e2 e3 => h (j + 1) p' s' v' e1 e2 e3)
  | [], _ :: _, _, l1, _, _ => by cases l1
  | _ :: _, [], _, l1, _, _ => by cases l1
  | [], [], _ :: _, _, l2, _ => by cases l2
  | _ :: _, _ :: _, [], _, l2, _ => by cases l2
theorem merge_old : ∀ (l acc : List (Key × V)) (k : Key), (∀ z ∈ l, z.1 ≠ k) → valV (mergeK acc l) k = valV acc k
  | [], _, _, _ => rfl
  | z :: l, acc, k, h => by
    show valV (mergeK (putK acc z.1 z.2) l) k = _
    rw [merge_old l _ k fun y hy => h y (List.mem_cons_of_mem _ hy), valV_put, if_neg fun e => h z List.mem_cons_self e.symm]
theorem merge_at : ∀ {ss : List Str} {vs : List V} {acc : List (Key × V)} {j : Nat} {s : Str} {v : V}, ss.Nodup → ss[j]? = some s → vs[j]? = some v → valV (mergeK acc (kvz ss vs)) (Sum.inr s : Key) = some v
  | [], _, _, _, _, _, _, h, _ => by cases h
  | _ :: _, [], _, _, _, _, _, _, h => by cases h
  | x :: ss, y :: vs, acc, 0, s, v, nd, h1, h2 => by
    cases h1; cases h2
    show valV (mergeK (putK acc (Sum.inr x) y) (kvz ss vs)) _ = _
    rw [merge_old, valV_put, if_pos rfl]
    intro z hz e
    obtain ⟨w, hw, rfl⟩ := List.mem_map.mp hz
    have := (List.of_mem_zip hw).1
    exact (List.nodup_cons.mp nd).1 (Sum.inr.inj e ▸ this)
  | x :: ss, y :: vs, acc, j + 1, s, v, nd, h1, h2 => by
    show valV (mergeK (putK acc (Sum.inr x) y) (kvz ss vs)) _ = _
    exact merge_at (List.nodup_cons.mp nd).2 h1 h2
theorem ex_asg : ∀ {ss : List Str} {qs : List Rat}, ss.Nodup → ∃ ρ : Str → Rat, ∀ (j : Nat) s q, ss[j]? = some s → qs[j]? = some q → ρ s = q
  | [], _, _ => ⟨fun _ => 0, fun j s q h => by cases h⟩
  | x :: ss, [], _ => ⟨fun _ => 0, fun j s q _ h => by cases h⟩
  | x :: ss, y :: qs, nd => by
    obtain ⟨ρ, h⟩ := ex_asg (ss := ss) (qs := qs) (List.nodup_cons.mp nd).2
    refine ⟨fun z => if z = x then y else ρ z, fun j s q h1 h2 => ?_⟩
    cases j with
    | zero => cases h1; cases h2; exact if_pos rfl
    | succ j =>
      have hne : s ≠ x := fun e => (List.nodup_cons.mp nd).1 (e ▸ List.mem_of_getElem? h1)
      show (if s = x then y else ρ s) = q
      rw [if_neg hne]
      exact h j s q h1 h2
/-- dict(..) of the pairs -/
theorem DTab.done {K : PySem.W.Frag} {H : Hp} {D : Addr} {ss : List Str} {qs : List Rat} {b : Nat} (h : DTab K H D ss ss.length qs b) (nd : ss.Nodup) {ρ : Str → Rat} (hρ : ∀ (j : Nat) s q, ss[j]? = some s → qs[j]? = some q → ρ s = q) :
    ∃ (ps : List Addr) (kvs : List (Key × V)), SqL K H D (ps.map V.ref) ∧ Paired (fun p kv => SqT K H p [kV kv.1, kv.2]) ps kvs ∧ ∀ d, H d = none → Tbl K (upd H d (.dK (mergeK [] kvs))) d ρ ss b := by
  obtain ⟨pas, vs, hD, l1, l2, hF, hP⟩ := h
  refine ⟨pas, kvz ss vs, SqL.of hD, paired_of l1 l2 hP, fun d nd' => ⟨_, upd_same, fun s hs => ?_⟩⟩
  obtain ⟨j, hj, e⟩ := List.getElem_of_mem hs
  have hs' : ss[j]? = some s := by rw [List.getElem?_eq_getElem hj, e]
  have hv : vs[j]? = some (vs[j]'(by omega)) := List.getElem?_eq_getElem _
  obtain ⟨q, hq, fq⟩ := hF.get hv
  refine ⟨_, merge_at nd hs' hv, ?_⟩
  rw [hρ j s q hs' hq]
  exact fq.same (Same.new nd')
theorem sum_more {qs : List Rat} {s : Rat} {i : Nat} {q : Rat} (h : qs[i]? = some q) : (qs.take (i + 1)).foldl (· + ·) s = (qs.take i).foldl (· + ·) s + q := by
  rw [List.take_add_one, h, List.foldl_append]
  rfl
theorem ded_mem {l : List Str} {x : Str} : x ∈ ded l ↔ x ∈ l := by
  unfold ded
  rw [fold_mem]
  simp
theorem strs_at {l : List Str} {i : Nat} {x : V} (h : (l.map V.str)[i]? = some x) : ∃ s, l[i]? = some s ∧ x = .str s := by
  rw [List.getElem?_map] at h
  cases e : l[i]? with
  | none => rw [e] at h; cases h
  | some q => rw [e] at h; exact ⟨q, rfl, (Option.some.inj h).symm⟩
theorem med3_in (x y z : Rat) : med3 x y z = x ∨ med3 x y z = y ∨ med3 x y z = z := by
  unfold med3
  simp only [Rat.max_def, Rat.min_def]
  grind
theorem med3_sum (x y z : Rat) : (0 + x + y + z) - (lmin [x, y, z] + lmax [x, y, z]) = med3 x y z := by
  show (0 + x + y + z) - (min x (min y z) + max x (max y z)) = med3 x y z
  unfold med3
  simp only [Rat.max_def, Rat.min_def]
  grind
theorem ofR_bt {q : Rat} {B : Nat} {K : PySem.W.Frag} {H : Hp} {v : V} {C : Nat} (f : FR K H v q B) (b : Bt q C) : FR K H v q C := FR.mk f.fr b
/-! ### tables that may lack names -/
def TabX (K : PySem.W.Frag) (H : Hp) (d : Addr) (kvs : List (Key × V)) (ρ : Str → Rat) (b : Nat) : Prop := H d = some (.dK kvs) ∧ ∀ (s : Str) v, valV kvs (Sum.inr s : Key) = some v → FR K H v (ρ s) b
theorem TabX.same {K : PySem.W.Frag} {H H' : Hp} {d : Addr} {kvs : List (Key × V)} {ρ : Str → Rat} {b : Nat} (h : TabX K H d kvs ρ b) (s : Same H H') : TabX K H' d kvs ρ b := ⟨s _ _ h.1, fun x v e => (h.2 x v e).same s⟩
theorem TabX.kp {K : PySem.W.Frag} {H H' : Hp} {r d : Addr} {kvs : List (Key × V)} {ρ : Str → Rat} {b : Nat} (h : TabX K H d kvs ρ b) (R : Rg H r) (k : Kp r H H') : TabX K H' d kvs ρ b := by
  have dr : d ≠ r := by
    obtain ⟨c, ns, i, x, kk, R⟩ := R
    exact ne_of h.1 R.hr fun z => by cases z
  exact ⟨k.1 _ _ dr h.1, fun x v e => (h.2 x v e).kp R k⟩
def missing (kvs : List (Key × V)) (t : Tm) : List Str := (ded t.flat).filter fun s => (valV kvs (Sum.inr s : Key)).isNone
theorem TabX.tbl {K : PySem.W.Frag} {H : Hp} {d : Addr} {kvs : List (Key × V)} {ρ : Str → Rat} {b : Nat} {t : Tm} (h : TabX K H d kvs ρ b) (m : missing kvs t = []) : Tbl K H d ρ t.flat b := by
  refine ⟨kvs, h.1, fun s hs => ?_⟩
  cases e : valV kvs (Sum.inr s : Key) with
  | some v => exact ⟨v, rfl, h.2 s v e⟩
  | none =>
    exfalso
    have : s ∈ missing kvs t := List.mem_filter.mpr ⟨ded_mem.mpr hs, by rw [e]; rfl⟩
    rw [m] at this
    cases this
theorem TabX.dget {K : PySem.W.Frag} {H : Hp} {d : Addr} {kvs : List (Key × V)} {ρ : Str → Rat} {b : Nat} {s : Str} (h : TabX K H d kvs ρ b) : DGet H d (.str s) (valV kvs (Sum.inr s : Key)) := DGet.k (k := Sum.inr s) h.1
theorem Tbl.full {K : PySem.W.Frag} {H : Hp} {d : Addr} {ρ : Str → Rat} {t : Tm} {b : Nat} (h : Tbl K H d ρ t.flat b) : ∃ kvs, H d = some (.dK kvs) ∧ missing kvs t = [] ∧ ∀ s ∈ t.flat, ∃ v, valV kvs (Sum.inr s : Key) = some v ∧ FR K H v (ρ s) b := by
  obtain ⟨kvs, e, z⟩ := h
  refine ⟨kvs, e, ?_, z⟩
  unfold missing
  rw [List.filter_eq_nil_iff]
  intro s hs
  obtain ⟨v, hv, _⟩ := z s (ded_mem.mp hs)
  rw [hv]
  simp
theorem DTab.ext {K : PySem.W.Frag} {H : Hp} {D : Addr} {ss us : List Str} {qs : List Rat} {b : Nat} (h : DTab K H D ss ss.length qs b) : DTab K H D (ss ++ us) ss.length qs b := by
  obtain ⟨pas, vs, hD, l1, l2, hF, hP⟩ := h
  refine ⟨pas, vs, hD, l1, l2, hF, fun j p s v e1 e2 e3 => hP j p s v e1 ?_ e3⟩
  have jl : j < pas.length := (List.getElem?_eq_some_iff.mp e1).1
  rw [List.getElem?_append_left (by omega)] at e2
  exact e2
theorem put_nd {kvs : List (Key × V)} {k : Key} {v : V} (h : (kvs.map (·.1)).Nodup) : ((putK kvs k v).map (·.1)).Nodup := by
  cases e : valV kvs k with
  | none => exact nd_putK v h e
  | some y =>
    unfold putK
    have : (kvs.any fun kv => decide (kv.1 = k)) = true := by rw [valV_any, e]; rfl
    rw [if_pos this, List.map_map]
    have e2 : (fun kv : Key × V => (if kv.1 = k then (kv.1, v) else kv).1) = fun kv => kv.1 := by
      funext kv
      split <;> rfl
    exact (show (kvs.map fun kv => (if kv.1 = k then (kv.1, v) else kv).1).Nodup by rw [e2]; exact h)
theorem merge_nd : ∀ (l acc : List (Key × V)), (acc.map (·.1)).Nodup → ((mergeK acc l).map (·.1)).Nodup
  | [], _, h => h
  | z :: l, acc, h => merge_nd l (putK acc z.1 z.2) (put_nd h)
theorem DTab.doneX {K : PySem.W.Frag} {H : Hp} {D : Addr} {ss : List Str} {qs : List Rat} {b : Nat} (h : DTab K H D ss ss.length qs b) (nd : ss.Nodup) {ρ : Str → Rat} (hρ : ∀ (j : Nat) s q, ss[j]? = some s → qs[j]? = some q → ρ s = q) :
    ∃ (ps : List Addr) (kvs : List (Key × V)), SqL K H D (ps.map V.ref) ∧ Paired (fun p kv => SqT K H p [kV kv.1, kv.2]) ps kvs ∧ (∀ k, ∀ v, valV (mergeK [] kvs) k = some v → ∃ c, v = V.ref c) ∧ ((mergeK [] kvs).map (·.1)).Nodup ∧ ∀ d, H d = none → TabX K (upd H d (.dK (mergeK [] kvs))) d (mergeK [] kvs) ρ b := by
  obtain ⟨pas, vs, hD, l1, l2, hF, hP⟩ := h
  have key : ∀ k v, valV (mergeK [] (kvz ss vs)) k = some v → ∃ (j : Nat) (s : Str), ss[j]? = some s ∧ vs[j]? = some v ∧ k = Sum.inr s := by
    intro k v e
    by_cases hk : ∃ s ∈ ss, k = Sum.inr s
    · obtain ⟨s, hs, rfl⟩ := hk
      obtain ⟨j, hj, ej⟩ := List.getElem_of_mem hs
      have hs' : ss[j]? = some s := by rw [List.getElem?_eq_getElem hj, ej]
      have hv : vs[j]? = some (vs[j]'(by omega)) := List.getElem?_eq_getElem _
      rw [merge_at nd hs' hv] at e
      cases e
      exact ⟨j, s, hs', hv, rfl⟩
    · rw [merge_old _ _ _ fun z hz e2 => ?_] at e
      · cases e
      · obtain ⟨y, hy, rfl⟩ := List.mem_map.mp hz
        exact hk ⟨y.1, (List.of_mem_zip hy).1, e2.symm⟩
  refine ⟨pas, kvz ss vs, SqL.of hD, paired_of l1 l2 hP, fun k v e => ?_, merge_nd _ _ List.nodup_nil, fun d nd' => ⟨upd_same, fun s v e => ?_⟩⟩
  · obtain ⟨j, s, hs, hv, _⟩ := key k v e
    obtain ⟨q, hq, fq⟩ := hF.get hv
    obtain ⟨c, ec, _⟩ := fq.fr
    exact ⟨c, ec⟩
  · obtain ⟨j, s', hs, hv, es⟩ := key _ v e
    cases es
    obtain ⟨q, hq, fq⟩ := hF.get hv
    rw [hρ j s q hs hq]
    exact fq.same (Same.new nd')
theorem All2.cons1 {R : V → Tm → Prop} {x : V} {t : Tm} {xs : List V} {ts : List Tm} (k : R x t) (h : All2 R xs ts) : All2 R (x :: xs) (t :: ts) :=
  ⟨by rw [List.length_cons, List.length_cons, h.1], fun i y u a b => by
    cases i with
    | zero => cases a; cases b; exact k
    | succ i => exact h.2 i y u a b⟩
theorem all2_ex {R : V → Tm → Prop} {G : Tm → Prop} : ∀ {ys : List V}, (∀ y ∈ ys, ∃ t, R y t ∧ G t) → ∃ ts, All2 R ys ts ∧ ∀ t ∈ ts, G t
  | [], _ => ⟨[], All2.nil, fun t h => by cases h⟩
  | y :: ys, h => by
    obtain ⟨t, r, g⟩ := h y List.mem_cons_self
    obtain ⟨ts, a, b⟩ := all2_ex (ys := ys) fun z hz => h z (List.mem_cons_of_mem _ hz)
    refine ⟨t :: ts, All2.cons1 r a, fun u hu => ?_⟩
    rcases List.mem_cons.mp hu with e | e
    · rw [e]; exact g
    · exact b u e
theorem All2.ex {R : V → Tm → Prop} {G : Tm → Prop} {xs : List V} {ts : List Tm} (h : All2 R xs ts) (g : ∀ t ∈ ts, G t) : ∀ x ∈ xs, ∃ t, R x t ∧ G t := fun x hx => by
  obtain ⟨i, hi, e⟩ := List.getElem_of_mem hx
  obtain ⟨t, ht, r⟩ := h.at (i := i) (x := x) (by rw [List.getElem?_eq_getElem hi, e])
  exact ⟨t, r, g t (List.mem_of_getElem? ht)⟩
/-- a term of the law, wide or not -/
structure FitT (K : PySem.W.Frag) (H : Hp) (ss : List Str) (v : V) (t : Tm) : Prop where
  at' : TmAt K H 12 v t
  vok : VOk 12 t
  fin : ∀ s ∈ t.flat, s ∈ ss
  bt : t.bt 40 ≤ 2705
  size : t.size ≤ 40
  wt : WT ss 4 t
theorem flats_in {ss : List Str} : ∀ {n : Nat} {t : Tm}, Good ss n t → ∀ s ∈ t.flat, s ∈ ss
  | 0, _, h => h.elim
  | n + 1, .ev s, h => fun x hx => by rw [Tm.flat] at hx; rw [List.mem_singleton.mp hx]; exact h
  | n + 1, .nd k ts, h => fun x hx => by
    rw [Tm.flat] at hx
    have go : ∀ us : List Tm, (∀ u ∈ us, ∀ s ∈ u.flat, s ∈ ss) → ∀ x ∈ Tm.flats us, x ∈ ss := by
      intro us
      induction us with
      | nil => intro _ x hx; rw [Tm.flats] at hx; cases hx
      | cons u us ih =>
        intro hh x hx
        rw [Tm.flats] at hx
        rcases List.mem_append.mp hx with z | z
        · exact hh u List.mem_cons_self x z
        · exact ih (fun v hv => hh v (List.mem_cons_of_mem _ hv)) x z
    exact go ts (fun u hu => flats_in (h.2 u hu)) x hx
/-! ### weights -/
theorem toR_red {i S : Int} (hS : S ≠ 0) : toR (red i S) = Rat.divInt i S := by rw [red_R hS, toR_ofR]
theorem sum_div (S : Int) : ∀ is : List Int, (is.map fun i => Rat.divInt i S).sum = Rat.divInt is.sum S
  | [] => by rw [List.map_nil, List.sum_nil, List.sum_nil, Rat.zero_divInt]
  | i :: is => by
    rw [List.map_cons, List.sum_cons, List.sum_cons, sum_div S is, Rat.divInt_eq_div, Rat.divInt_eq_div, Rat.divInt_eq_div, Rat.intCast_add]
    grind
theorem ints_pos : ∀ {is : List Int}, (∀ i ∈ is, 1 ≤ i ∧ i ≤ 4) → is ≠ [] → 0 < is.sum
  | [], _, h => absurd rfl h
  | [i], h, _ => by have := h i List.mem_cons_self; simp; omega
  | i :: j :: is, h, _ => by
    have h1 := h i List.mem_cons_self
    have h2 := ints_pos (is := j :: is) (fun k hk => h k (List.mem_cons_of_mem _ hk)) (by simp)
    rw [List.sum_cons]
    omega
theorem ShW.nice {ws : List QQ} (h : ShW ws) (n0 : ws ≠ []) : (∀ w ∈ ws.map toR, 0 ≤ w) ∧ (ws.map toR).sum = 1 := by
  obtain ⟨is, hi, _, rfl⟩ := h
  have ne : is ≠ [] := fun z => n0 (by rw [z]; rfl)
  have S0 := ints_pos hi ne
  have e : (is.map fun i => red i is.sum).map toR = is.map fun i => Rat.divInt i is.sum := by
    rw [List.map_map]
    exact List.map_congr_left fun i _ => toR_red (by omega)
  rw [e]
  refine ⟨fun w hw => ?_, ?_⟩
  · obtain ⟨i, hm, rfl⟩ := List.mem_map.mp hw
    exact (Rat.divInt_nonneg_iff_of_pos_right S0).mpr (by have := hi i hm; omega)
  · rw [sum_div, Rat.divInt_eq_div]
    have hz : ((is.sum : Int) : Rat) ≠ 0 := fun z => by
      have : is.sum = 0 := by exact_mod_cast z
      omega
    grind
/-! ### terms that may be malformed -/
inductive Rk where
  | ev (ss : List Str) | dl (f : Option QQ) | mx (ws : List QQ) | nn (k : Str)
inductive Rw where
  | mk (k : Rk) (ts : List Rw) : Rw
def Rw.subs : Rw → List Rw
  | .mk _ ts => ts
def Rw.kd : Rw → Rk
  | .mk k _ => k
mutual
def Rw.size : Rw → Nat
  | .mk _ ts => 1 + Rw.sizes ts
def Rw.sizes : List Rw → Nat
  | [] => 0
  | t :: ts => t.size + Rw.sizes ts
end
mutual
def Rw.depth : Rw → Nat
  | .mk _ ts => 1 + Rw.depths ts
def Rw.depths : List Rw → Nat
  | [] => 0
  | t :: ts => Nat.max t.depth (Rw.depths ts)
end
theorem Rw.size_eq (t : Rw) : t.size = 1 + Rw.sizes t.subs := by cases t; rw [Rw.size]; rfl
theorem Rw.sizes_app : ∀ a b : List Rw, Rw.sizes (a ++ b) = Rw.sizes a + Rw.sizes b
  | [], b => by rw [List.nil_append, Rw.sizes]; omega
  | x :: a, b => by rw [List.cons_append, Rw.sizes, Rw.sizes, Rw.sizes_app a b]; omega
theorem Rw.sizes_len : ∀ ts : List Rw, ts.length ≤ Rw.sizes ts
  | [] => Nat.zero_le _
  | t :: ts => by
    have := Rw.sizes_len ts
    rw [Rw.sizes, List.length_cons, t.size_eq]
    omega
def fracB (f : QQ) : Bool := (decide (f.1.natAbs ≤ 999999999999) && (decide (1 ≤ f.2) && decide (f.2 ≤ 999999999999))) && decide (red f.1 f.2 = f)
def evB : List Str → Bool
  | [s] => nameB s
  | _ => false
def formK : Rk → Nat → Bool
  | .ev ss, _ => evB ss
  | .dl none, _ => false
  | .dl (some f), _ => fracB f
  | .mx ws, m => (decide (1 ≤ m) && decide (m ≤ 6)) && ((ws.all fun w => fracB w && decide (0 < w.1)) && decide (ws.foldl radd (0, 1) = (1, 1)))
  | .nn k, m => if k = "median" then decide (m = 3) else (decide (k = "max") || decide (k = "min")) && (decide (1 ≤ m) && decide (m ≤ 6))
def Rw.form (t : Rw) : Bool := formK t.kd t.subs.length
def isT : Nat → Rw → Bool
  | 0, _ => false
  | n + 1, t => t.form && t.subs.all (isT n)
/-- level by level -/
def bfs : Nat → List Rw → Nat → Bool
  | 0, l, _ => l.isEmpty
  | n + 1, l, s => l.isEmpty || (decide (s + l.length ≤ 40) && (l.all Rw.form && bfs n (l.flatMap Rw.subs) (s + l.length)))
theorem bfs_succ (n : Nat) (l : List Rw) (s : Nat) : bfs (n + 1) l s = (l.isEmpty || (decide (s + l.length ≤ 40) && (l.all Rw.form && bfs n (l.flatMap Rw.subs) (s + l.length)))) := rfl
theorem sizes_flat : ∀ l : List Rw, Rw.sizes l = l.length + Rw.sizes (l.flatMap Rw.subs)
  | [] => by rw [Rw.sizes]; rfl
  | t :: l => by
    have := sizes_flat l
    rw [List.flatMap_cons, Rw.sizes, Rw.sizes_app, List.length_cons, t.size_eq]
    omega
theorem bfs_eq : ∀ (n : Nat) (l : List Rw) (s : Nat), s ≤ 40 → bfs n l s = (l.all (isT n) && decide (s + Rw.sizes l ≤ 40))
  | 0, l, s, hs => by
    unfold bfs
    cases l with
    | nil => rw [Rw.sizes, decide_eq_true (by omega)]; rfl
    | cons t l => rfl
  | n + 1, l, s, hs => by
    unfold bfs
    cases l with
    | nil => rw [Rw.sizes, decide_eq_true (show s + 0 ≤ 40 by omega)]; rfl
    | cons t l =>
      have hl := Rw.sizes_len (t :: l)
      show (decide (s + (t :: l).length ≤ 40) && _) = _
      by_cases h : s + (t :: l).length ≤ 40
      · rw [decide_eq_true h, bfs_eq n _ _ h, Bool.true_and]
        have e : s + Rw.sizes (t :: l) = s + (t :: l).length + Rw.sizes ((t :: l).flatMap Rw.subs) := by rw [sizes_flat]; omega
        rw [e, ← Bool.and_assoc]
        congr 1
        have key : ∀ m : List Rw, (m.all Rw.form && (m.flatMap Rw.subs).all (isT n)) = m.all (isT (n + 1)) := by
          intro m
          induction m with
          | nil => rfl
          | cons x m ih =>
            rw [List.flatMap_cons, List.all_append, List.all_cons, List.all_cons, ← ih]
            show _ = (x.form && x.subs.all (isT n) && _)
            cases x.form <;> cases (x.subs.all (isT n)) <;> cases (m.all Rw.form) <;> cases ((m.flatMap Rw.subs).all (isT n)) <;> rfl
        exact key (t :: l)
      · rw [decide_eq_false h, Bool.false_and, decide_eq_false (show ¬ s + Rw.sizes (t :: l) ≤ 40 by omega), Bool.and_false]
/-! ### in memory -/
def All3 (R : V → Rw → Prop) (xs : List V) (ts : List Rw) : Prop := xs.length = ts.length ∧ ∀ (i : Nat) x t, xs[i]? = some x → ts[i]? = some t → R x t
theorem All3.mono {R S : V → Rw → Prop} {xs : List V} {ts : List Rw} (h : All3 R xs ts) (k : ∀ x t, R x t → S x t) : All3 S xs ts := ⟨h.1, fun i x t a b => k x t (h.2 i x t a b)⟩
theorem All3.nil {R : V → Rw → Prop} : All3 R [] [] := ⟨rfl, fun i x t h => by cases h⟩
theorem All3.cons {R : V → Rw → Prop} {x : V} {t : Rw} {xs : List V} {ts : List Rw} (k : R x t) (h : All3 R xs ts) : All3 R (x :: xs) (t :: ts) :=
  ⟨by rw [List.length_cons, List.length_cons, h.1], fun i y u a b => by
    cases i with
    | zero => cases a; cases b; exact k
    | succ i => exact h.2 i y u a b⟩
theorem All3.one {R : V → Rw → Prop} {x : V} {t : Rw} (k : R x t) : All3 R [x] [t] := All3.cons k All3.nil
theorem All3.at {R : V → Rw → Prop} {xs : List V} {ts : List Rw} (h : All3 R xs ts) {i : Nat} {x : V} (hx : xs[i]? = some x) : ∃ t, ts[i]? = some t ∧ R x t := by
  have l : i < ts.length := by rw [← h.1]; exact (List.getElem?_eq_some_iff.mp hx).1
  exact ⟨ts[i], List.getElem?_eq_getElem l, h.2 i x _ hx (List.getElem?_eq_getElem l)⟩
theorem All3.app {R : V → Rw → Prop} {xs ys : List V} {ts us : List Rw} (a : All3 R xs ts) (b : All3 R ys us) : All3 R (xs ++ ys) (ts ++ us) := by
  refine ⟨by rw [List.length_append, List.length_append, a.1, b.1], fun i x t h1 h2 => ?_⟩
  by_cases hi : i < xs.length
  · rw [List.getElem?_append_left hi] at h1
    rw [List.getElem?_append_left (by rw [← a.1]; exact hi)] at h2
    exact a.2 i x t h1 h2
  · rw [List.getElem?_append_right (by omega)] at h1
    rw [List.getElem?_append_right (by rw [← a.1]; omega), ← a.1] at h2
    exact b.2 _ x t h1 h2
theorem All3.rep {R : V → Rw → Prop} {x : V} {t : Rw} (k : R x t) : ∀ n, All3 R (List.replicate n x) (List.replicate n t)
  | 0 => All3.nil
  | n + 1 => All3.cons k (All3.rep k n)
structure FrW (K : PySem.W.Frag) (H : Hp) (v : V) (f : QQ) : Prop where
  fr : Fr K H v f.1 f.2
  nB : f.1.natAbs < 2 ^ 120
  dB : f.2.natAbs < 2 ^ 120
def RNode (K : PySem.W.Frag) (H : Hp) (v : V) : Rk → List V → Prop
  | .ev ss, xs => xs = [] ∧ ss.length ≤ 2000 ∧ (∀ s ∈ ss, s.length ≤ 4000) ∧ ∃ p, v = .ref p ∧ SqT K H p (.str "event" :: ss.map V.str)
  | .dl none, xs => ∃ p x, xs = [x] ∧ v = .ref p ∧ SqT K H p [.str "delay", x]
  | .dl (some f), xs => ∃ p x fv, xs = [x] ∧ v = .ref p ∧ SqT K H p [.str "delay", x, fv] ∧ FrW K H fv f
  | .mx ws, xs => ∃ p ys, v = .ref p ∧ SqT K H p (.str "mix" :: ys) ∧ ys.length = xs.length ∧ ws.length = xs.length ∧ ∀ (i : Nat) y x f, ys[i]? = some y → xs[i]? = some x → ws[i]? = some f → ∃ q wv, y = .ref q ∧ SqT K H q [wv, x] ∧ FrW K H wv f
  | .nn k, xs => k ≠ "event" ∧ k ≠ "delay" ∧ k ≠ "mix" ∧ ∃ p, v = .ref p ∧ SqT K H p (.str k :: xs)
def RwAt (K : PySem.W.Frag) (H : Hp) : Nat → V → Rw → Prop
  | 0, _, _ => False
  | n + 1, v, .mk k ts => ts.length ≤ 2000 ∧ ∃ xs, RNode K H v k xs ∧ All3 (RwAt K H n) xs ts
section
variable {K : PySem.W.Frag} {H H' : Hp}
theorem FrW.imp {v : V} {f : QQ} (h : FrW K H v f) (sT : ∀ p xs, SqT K H p xs → SqT K H' p xs) : FrW K H' v f := ⟨(by obtain ⟨p, e, z⟩ := h.fr; exact ⟨p, e, sT _ _ z⟩), h.nB, h.dB⟩
theorem RNode.imp (sT : ∀ p xs, SqT K H p xs → SqT K H' p xs) {v : V} {k : Rk} {xs : List V} (h : RNode K H v k xs) : RNode K H' v k xs := by
  match k, h with
  | .ev ss, ⟨a, b, c, p, e, z⟩ => exact ⟨a, b, c, p, e, sT _ _ z⟩
  | .dl none, ⟨p, x, e1, e2, z⟩ => exact ⟨p, x, e1, e2, sT _ _ z⟩
  | .dl (some f), ⟨p, x, fv, e1, e2, z, w⟩ => exact ⟨p, x, fv, e1, e2, sT _ _ z, w.imp sT⟩
  | .mx ws, ⟨p, ys, e, z, l1, l2, h⟩ =>
    refine ⟨p, ys, e, sT _ _ z, l1, l2, fun i y x f a b c => ?_⟩
    obtain ⟨q, wv, e', h3, h4⟩ := h i y x f a b c
    exact ⟨q, wv, e', sT _ _ h3, h4.imp sT⟩
  | .nn k, ⟨a, b, c, p, e, z⟩ => exact ⟨a, b, c, p, e, sT _ _ z⟩
theorem RwAt.imp (sT : ∀ p xs, SqT K H p xs → SqT K H' p xs) : ∀ {n : Nat} {v : V} {t : Rw}, RwAt K H n v t → RwAt K H' n v t
  | 0, _, _, h => h
  | n + 1, v, .mk k ts, h => by
    obtain ⟨l, xs, h1, h2⟩ := h
    exact ⟨l, xs, h1.imp sT, h2.mono fun x t z => RwAt.imp sT z⟩
theorem RwAt.same (s : Same H H') {n : Nat} {v : V} {t : Rw} (h : RwAt K H n v t) : RwAt K H' n v t := h.imp fun _ _ z => Same.T s z
theorem RwAt.kp {r : Addr} (R : Rg H r) (k : Kp r H H') {n : Nat} {v : V} {t : Rw} (h : RwAt K H n v t) : RwAt K H' n v t := h.imp fun _ _ z => RgT R k z
theorem sqPut {D p : Addr} {l l' xs : List V} (h : SqT K H p xs) (hD : H D = some (.lst l)) : SqT K (upd H D (.lst l')) p xs := by
  rcases h with (z | ⟨o, z⟩) | z
  · exact .inl (.inl (by rw [upd_ne (ne_of z hD (fun y => by cases y))]; exact z))
  · exact .inl (.inr ⟨o, by rw [upd_ne (ne_of z hD (fun y => by cases y))]; exact z⟩)
  · exact .inr z
theorem RwAt.put {D : Addr} {l l' : List V} (hD : H D = some (.lst l)) {n : Nat} {v : V} {t : Rw} (h : RwAt K H n v t) : RwAt K (upd H D (.lst l')) n v t := h.imp fun _ _ z => sqPut z hD
theorem RwAt.up : ∀ {n : Nat} {v : V} {t : Rw}, RwAt K H n v t → RwAt K H (n + 1) v t
  | 0, _, _, h => h.elim
  | n + 1, v, .mk k ts, h => by
    obtain ⟨l, xs, h1, h2⟩ := h
    exact ⟨l, xs, h1, h2.mono fun x t z => RwAt.up z⟩
theorem RwAt.le {n m : Nat} (l : n ≤ m) {v : V} {t : Rw} (h : RwAt K H n v t) : RwAt K H m v t := by
  induction l with
  | refl => exact h
  | step _ ih => exact ih.up
end
/-- a tuple that begins with a text, n items in all -/
theorem RwAt.hd {K : PySem.W.Frag} {H : Hp} {n : Nat} {v : V} {t : Rw} (h : RwAt K H (n + 1) v t) : ∃ p k ys, v = .ref p ∧ SqT K H p (.str k :: ys) ∧ ys.length ≤ 2000 := by
  match t, h with
  | .mk (.ev ss) ts, ⟨l, xs, ⟨_, b, _, p, e, z⟩, h2⟩ => exact ⟨p, _, _, e, z, by rw [List.length_map]; exact b⟩
  | .mk (.dl none) ts, ⟨l, xs, ⟨p, x, e1, e2, z⟩, h2⟩ => exact ⟨p, _, _, e2, z, by show 1 ≤ 2000; decide⟩
  | .mk (.dl (some f)) ts, ⟨l, xs, ⟨p, x, fv, e1, e2, z, w⟩, h2⟩ => exact ⟨p, _, _, e2, z, by show 2 ≤ 2000; decide⟩
  | .mk (.mx ws) ts, ⟨l, xs, ⟨p, ys, e, z, l1, l2, _⟩, h2⟩ => exact ⟨p, _, _, e, z, by rw [l1, h2.1]; exact l⟩
  | .mk (.nn k) ts, ⟨l, xs, ⟨_, _, _, p, e, z⟩, h2⟩ => exact ⟨p, _, _, e, z, by rw [h2.1]; exact l⟩
theorem FrW.same {K : PySem.W.Frag} {H H' : Hp} {v : V} {f : QQ} (h : FrW K H v f) (s : Same H H') : FrW K H' v f := h.imp fun _ _ z => Same.T s z
/-- from a drawn term -/
def Kd.raw : Kd → Rk
  | .delay f => .dl (some f) | .max => .nn "max" | .min => .nn "min" | .median => .nn "median" | .mix ws => .mx ws
mutual
def Tm.raw : Tm → Rw
  | .ev s => .mk (.ev [s]) []
  | .nd k ts => .mk k.raw (Tm.raws ts)
def Tm.raws : List Tm → List Rw
  | [] => []
  | t :: ts => t.raw :: Tm.raws ts
end
theorem raws_map : ∀ ts : List Tm, Tm.raws ts = ts.map Tm.raw
  | [] => by rw [Tm.raws]; rfl
  | t :: ts => by rw [Tm.raws, raws_map ts]; rfl
theorem TmAt.raw {K : PySem.W.Frag} {H : Hp} {ss : List Str} (hs : ∀ s ∈ ss, s.length ≤ 4000) : ∀ {n : Nat} {v : V} {t : Tm}, TmAt K H n v t → Good ss n t → RwAt K H n v t.raw
  | 0, _, _, h, _ => h.elim
  | n + 1, v, .ev s, h, g => by
    obtain ⟨p, e, z⟩ := h
    rw [Tm.raw]
    refine ⟨Nat.zero_le _, [], ⟨rfl, by show 1 ≤ 2000; decide, fun x hx => ?_, p, e, z⟩, All3.nil⟩
    rw [List.mem_singleton.mp hx]; exact hs s g
  | n + 1, v, .nd k ts, h, g => by
    obtain ⟨xs, h1, h2⟩ := h
    have h3 := g.1.three
    rw [Tm.raw, raws_map]
    have fw : ∀ {v f}, FrB K H v f.1 f.2 40 → FrW K H v f := fun z => ⟨z.fr, Nat.lt_of_lt_of_le z.nB (Nat.pow_le_pow_right (by decide) (by decide)), Nat.lt_of_lt_of_le z.dB (Nat.pow_le_pow_right (by decide) (by decide))⟩
    refine ⟨by rw [List.length_map]; omega, xs, ?_, ?_⟩
    · cases k with
      | delay f => obtain ⟨p, x, fv, e1, e2, z, w⟩ := h1; exact ⟨p, x, fv, e1, e2, z, fw w⟩
      | max => obtain ⟨p, e, z⟩ := h1; exact ⟨by decide +kernel, by decide +kernel, by decide +kernel, p, e, z⟩
      | min => obtain ⟨p, e, z⟩ := h1; exact ⟨by decide +kernel, by decide +kernel, by decide +kernel, p, e, z⟩
      | median => obtain ⟨p, e, z⟩ := h1; exact ⟨by decide +kernel, by decide +kernel, by decide +kernel, p, e, z⟩
      | mix ws =>
        obtain ⟨p, ys, e, z, l1, l2, hm⟩ := h1
        refine ⟨p, ys, e, z, l1, l2, fun i y x f a b c => ?_⟩
        obtain ⟨q, wv, e', h3, h4⟩ := hm i y x f a b c
        exact ⟨q, wv, e', h3, fw h4⟩
    · refine ⟨by rw [List.length_map]; exact h2.1, fun i x t a b => ?_⟩
      rw [List.getElem?_map] at b
      cases e : ts[i]? with
      | none => rw [e] at b; cases b
      | some u =>
        rw [e] at b
        cases b
        exact TmAt.raw hs (h2.2 i x u a e) (g.2 u (List.mem_of_getElem? e))
mutual
theorem raw_size : ∀ t : Tm, t.raw.size = t.size
  | .ev s => by rw [Tm.raw, Rw.size, Rw.sizes, Tm.size]
  | .nd k ts => by rw [Tm.raw, Rw.size, Tm.size, raw_sizes ts]
theorem raw_sizes : ∀ ts : List Tm, Rw.sizes (Tm.raws ts) = Tm.sizes ts
  | [] => by rw [Tm.raws, Rw.sizes, Tm.sizes]
  | t :: ts => by rw [Tm.raws, Rw.sizes, Tm.sizes, raw_size t, raw_sizes ts]
end
theorem sqL_ty {K : PySem.W.Frag} {H : Hp} {a : Addr} {xs : List V} (h : SqT K H a xs) : TyX K H (.ref a) (.type "tuple") := tyT h
theorem absL (i : Int) : decide ((if i < 0 then -i else i) ≤ 999999999999) = decide (i.natAbs ≤ 999999999999) := decide_eq_decide.mpr (by split <;> omega)
theorem fr_eqv (f g : QQ) : PyData.eqv (.tuple [.int f.1, .int f.2]) (.tuple [.int g.1, .int g.2]) = decide (f = g) := by
  simp only [PyData.eqv, PyData.eqvAll, Bool.and_true]
  by_cases h1 : f.1 = g.1
  · by_cases h2 : f.2 = g.2
    · rw [decide_eq_true (Prod.ext h1 h2)]; simp [h1, h2]
    · rw [decide_eq_false (fun z => h2 (by rw [z]))]; simp [h2]
  · rw [decide_eq_false (fun z => h1 (by rw [z]))]; simp [h1]
theorem fracB_low {f : QQ} (h : fracB f = true) : 0 < f.2 ∧ Int.gcd f.1 f.2 = 1 := by
  unfold fracB at h
  rw [Bool.and_eq_true, Bool.and_eq_true, Bool.and_eq_true, decide_eq_true_eq, decide_eq_true_eq, decide_eq_true_eq, decide_eq_true_eq] at h
  obtain ⟨⟨h1, h2, h3⟩, h4⟩ := h
  refine ⟨by omega, ?_⟩
  have g := red_gcd (n := f.1) (d := f.2) (by omega)
  rw [h4] at g
  exact g
theorem fracB_bd {f : QQ} (h : fracB f = true) : f.1.natAbs < 2 ^ 40 ∧ f.2.natAbs < 2 ^ 40 := by
  unfold fracB at h
  rw [Bool.and_eq_true, Bool.and_eq_true, Bool.and_eq_true, decide_eq_true_eq, decide_eq_true_eq, decide_eq_true_eq, decide_eq_true_eq] at h
  obtain ⟨⟨h1, h2, h3⟩, h4⟩ := h
  exact ⟨by omega, by omega⟩
/-- the direct subterms, as a new list -/
def spSubsR (K : PySem.W.Frag) : Sp := fun vs H Q _ => ∃ (v : V) (t : Rw) (n : Nat), vs = [v] ∧ RwAt K H (n + 1) v t ∧ ∀ l H' xs, Same H H' → H l = none → H' l = some (.lst xs) → All3 (RwAt K H' n) xs t.subs → Q (.ref l) H'
theorem in2 (kk : Str) : inV (.str kk) [.str "max", .str "min"] = (decide (kk = "max") || decide (kk = "min")) := by
  have e := in_strs kk ["max", "min"]
  have e' : inV (.str kk) [.str "max", .str "min"] = decide (kk ∈ (["max", "min"] : List Str)) := e
  rw [e']
  by_cases h1 : kk = "max"
  · rw [decide_eq_true h1, Bool.true_or]
    exact decide_eq_true (by rw [h1]; exact List.mem_cons_self)
  · rw [decide_eq_false h1, Bool.false_or]
    refine decide_eq_decide.mpr ⟨fun h => ?_, fun h => by rw [h]; exact List.mem_cons_of_mem _ List.mem_cons_self⟩
    rcases List.mem_cons.mp h with z | z
    · exact absurd z h1
    · exact List.mem_singleton.mp z
def RAr : Nat → Rw → Prop
  | 0, _ => False
  | n + 1, t => t.subs.length ≤ 2000 ∧ ∀ u ∈ t.subs, RAr n u
theorem RwAt.ar {K : PySem.W.Frag} {H : Hp} : ∀ {n : Nat} {v : V} {t : Rw}, RwAt K H n v t → RAr n t
  | 0, _, _, h => h
  | n + 1, v, .mk k ts, h => by
    obtain ⟨l, xs, h1, h2⟩ := h
    refine ⟨l, fun u hu0 => ?_⟩
    have hu : u ∈ ts := hu0
    obtain ⟨i, hi, e⟩ := List.getElem_of_mem hu
    have hu' : ts[i]? = some u := by rw [List.getElem?_eq_getElem hi, e]
    have hx : xs[i]? = some (xs[i]'(by rw [h2.1]; exact hi)) := List.getElem?_eq_getElem _
    exact RwAt.ar (h2.2 i _ u hx hu')
def spSizeR (K : PySem.W.Frag) : Nat → Sp
  | 0 => fun _ _ _ _ => False
  | n + 1 => fun vs H Q _ => ∃ (v : V) (t : Rw), vs = [v] ∧ RwAt K H (n + 1) v t ∧ ∀ H', Same H H' → Q (.int (t.size : Nat)) H'
def spDepthR (K : PySem.W.Frag) : Nat → Sp
  | 0 => fun _ _ _ _ => False
  | n + 1 => fun vs H Q _ => ∃ (v : V) (t : Rw), vs = [v] ∧ RwAt K H (n + 1) v t ∧ ∀ H', Same H H' → Q (.int (t.depth : Nat)) H'
theorem Rw.sizes_eq : ∀ ts : List Rw, Rw.sizes ts = (ts.map Rw.size).sum
  | [] => by rw [Rw.sizes]; rfl
  | t :: ts => by rw [Rw.sizes, Rw.sizes_eq ts, List.map_cons, List.sum_cons]
theorem Rw.depth_eq (t : Rw) : t.depth = 1 + Rw.depths t.subs := by cases t; rw [Rw.depth]; rfl
theorem rdepths_ge : ∀ {ts : List Rw} {u : Rw}, u ∈ ts → u.depth ≤ Rw.depths ts
  | t :: ts, u, h => by
    rw [Rw.depths]
    rcases List.mem_cons.mp h with z | z
    · rw [z]; exact Nat.le_max_left _ _
    · exact Nat.le_trans (rdepths_ge z) (Nat.le_max_right _ _)
theorem rdepths_in : ∀ {ts : List Rw}, ts ≠ [] → ∃ u ∈ ts, Rw.depths ts = u.depth
  | [], h => absurd rfl h
  | t :: ts, _ => by
    rw [Rw.depths]
    by_cases q : ts = []
    · subst q
      exact ⟨t, List.mem_cons_self, by rw [Rw.depths]; exact Nat.max_eq_left (Nat.zero_le _)⟩
    · obtain ⟨u, hu, e⟩ := rdepths_in q
      by_cases c : Rw.depths ts ≤ t.depth
      · exact ⟨t, List.mem_cons_self, Nat.max_eq_left c⟩
      · exact ⟨u, List.mem_cons_of_mem _ hu, by rw [← e]; exact Nat.max_eq_right (by omega)⟩
theorem rdepths_max {ts : List Rw} {m : Int} (hm : m ∈ ts.map (fun u => (u.depth : Int))) (hk : ∀ k ∈ ts.map (fun u => (u.depth : Int)), k ≤ m) : (Rw.depths ts : Int) = m := by
  obtain ⟨u, hu, rfl⟩ := List.mem_map.mp hm
  have h1 := rdepths_ge hu
  obtain ⟨v, hv, e⟩ := rdepths_in (ts := ts) (fun z => by rw [z] at hu; cases hu)
  have h2 := hk _ (List.mem_map.mpr ⟨v, hv, rfl⟩)
  have h2' : (v.depth : Int) ≤ (u.depth : Int) := h2
  omega
def spIsT (K : PySem.W.Frag) : Nat → Sp
  | 0 => fun _ _ _ _ => False
  | n + 1 => fun vs H Q _ => ∃ (v : V) (t : Rw) (d m : Nat), vs = [v, .int (d : Nat)] ∧ d ≤ n ∧ d < m ∧ RwAt K H m v t ∧ ∀ H', Same H H' → Q (.bl (isT d t)) H'
def Rk.nm : Rk → Str
  | .ev _ => "event" | .dl _ => "delay" | .mx _ => "mix" | .nn k => k
/-- the items behind the name, and the subterms among them -/
def RRest (K : PySem.W.Frag) (H : Hp) : Rk → List V → List V → Prop
  | .ev ss, ys, xs => xs = [] ∧ ss.length ≤ 2000 ∧ (∀ s ∈ ss, s.length ≤ 4000) ∧ ys = ss.map V.str
  | .dl none, ys, xs => ∃ x, xs = [x] ∧ ys = [x]
  | .dl (some f), ys, xs => ∃ x fv, xs = [x] ∧ ys = [x, fv] ∧ FrW K H fv f
  | .mx ws, ys, xs => ys.length = xs.length ∧ ws.length = xs.length ∧ ∀ (i : Nat) y x f, ys[i]? = some y → xs[i]? = some x → ws[i]? = some f → ∃ q wv, y = .ref q ∧ SqT K H q [wv, x] ∧ FrW K H wv f
  | .nn k, ys, xs => k ≠ "event" ∧ k ≠ "delay" ∧ k ≠ "mix" ∧ ys = xs
theorem RNode.nm {K : PySem.W.Frag} {H : Hp} {v : V} {k : Rk} {xs : List V} (h : RNode K H v k xs) : ∃ p ys, v = .ref p ∧ SqT K H p (.str k.nm :: ys) ∧ RRest K H k ys xs := by
  match k, h with
  | .ev ss, ⟨a, b, c, p, e, z⟩ => exact ⟨p, _, e, z, a, b, c, rfl⟩
  | .dl none, ⟨p, x, e1, e2, z⟩ => exact ⟨p, _, e2, z, x, e1, rfl⟩
  | .dl (some f), ⟨p, x, fv, e1, e2, z, w⟩ => exact ⟨p, _, e2, z, x, fv, e1, rfl, w⟩
  | .mx ws, ⟨p, ys, e, z, h⟩ => exact ⟨p, ys, e, z, h⟩
  | .nn k, ⟨a, b, c, p, e, z⟩ => exact ⟨p, _, e, z, a, b, c, rfl⟩
theorem RRest.nd {K : PySem.W.Frag} {H : Hp} {p : Addr} {k : Rk} {ys xs : List V} (h : RRest K H k ys xs) (z : SqT K H p (.str k.nm :: ys)) : RNode K H (.ref p) k xs := by
  match k, h with
  | .ev ss, ⟨a, b, c, e⟩ => subst e; exact ⟨a, b, c, p, rfl, z⟩
  | .dl none, ⟨x, e1, e⟩ => subst e; exact ⟨p, x, e1, rfl, z⟩
  | .dl (some f), ⟨x, fv, e1, e, w⟩ => subst e; exact ⟨p, x, fv, e1, rfl, z, w⟩
  | .mx ws, h => exact ⟨p, ys, rfl, z, h⟩
  | .nn k, ⟨a, b, c, e⟩ => subst e; exact ⟨a, b, c, p, rfl, z⟩
theorem form_nil {K : PySem.W.Frag} {H : Hp} {k : Rk} {xs : List V} (h : RRest K H k [] xs) : formK k xs.length = false := by
  match k, h with
  | .ev [], _ => rfl
  | .ev (s :: ss), ⟨_, _, _, e⟩ => cases e
  | .dl none, ⟨x, e1, e⟩ => cases e
  | .dl (some f), ⟨x, fv, e1, e, w⟩ => cases e
  | .mx ws, ⟨l1, l2, _⟩ => rw [← l1]; rfl
  | .nn k, ⟨_, _, _, e⟩ =>
    subst e
    show (if k = "median" then decide (0 = 3) else (decide (k = "max") || decide (k = "min")) && (decide (1 ≤ 0) && decide (0 ≤ 6))) = false
    split
    · rfl
    · exact Bool.and_false _
def kinds : List Str := ["event", "delay", "max", "min", "median", "mix"]
theorem form_kind {k : Rk} {n : Nat} (h : k.nm ∉ kinds) : formK k n = false := by
  match k with
  | .ev _ => exact absurd List.mem_cons_self h
  | .dl _ => exact absurd (List.mem_cons_of_mem _ List.mem_cons_self) h
  | .mx _ => exact absurd (by decide +kernel : ("mix" : Str) ∈ kinds) h
  | .nn k =>
    have h1 : k ≠ "median" := fun e => h (by rw [e]; exact (by decide +kernel : ("median" : Str) ∈ kinds))
    have h2 : k ≠ "max" := fun e => h (by rw [e]; exact (by decide +kernel : ("max" : Str) ∈ kinds))
    have h3 : k ≠ "min" := fun e => h (by rw [e]; exact (by decide +kernel : ("min" : Str) ∈ kinds))
    show (if k = "median" then _ else _) = false
    rw [if_neg h1, decide_eq_false h2, decide_eq_false h3]
    rfl
theorem go_ifS {c : TT} {t u : TS} {D : Ends} {σ : L2.St} {H : Hp} (b : Bool) (H1 : Hp) (step : ∀ Q : Bool → Hp → Prop, Q b H1 → c σ H Q) (h : if b = true then t D σ H1 else u D σ H1) : tIfS c t u D σ H := step _ h
def wB (f : QQ) : Bool := fracB f && decide (0 < f.1)
def mixB (ws : List QQ) : Bool := (ws.all fun w => fracB w && decide (0 < w.1)) && decide (ws.foldl radd (0, 1) = (1, 1))
/-! ### ways into a term -/
def at? : Rw → List Nat → Option Rw
  | t, [] => some t
  | t, i :: is => t.subs[i]?.bind fun u => at? u is
def VI (is : List Nat) : List V := is.map fun (i : Nat) => V.int ((i : Nat) : Int)
/-- a tuple of the way ns, and behind it a way of t -/
def WayAt (K : PySem.W.Frag) (H : Hp) (t : Rw) (ns : List Nat) (x : V) : Prop := ∃ p is u, x = .ref p ∧ SqT K H p (VI (ns ++ is)) ∧ at? t is = some u
theorem WayAt.same {K : PySem.W.Frag} {H H' : Hp} {t : Rw} {ns : List Nat} {x : V} (h : WayAt K H t ns x) (s : Same H H') : WayAt K H' t ns x := by
  obtain ⟨p, is, u, e, z, a⟩ := h
  exact ⟨p, is, u, e, Same.T s z, a⟩
theorem WayAt.sub {K : PySem.W.Frag} {H : Hp} {t u : Rw} {i : Nat} {ns : List Nat} {x : V} (h : WayAt K H u (ns ++ [i]) x) (e : t.subs[i]? = some u) : WayAt K H t ns x := by
  obtain ⟨p, is, u', e', z, a⟩ := h
  exact ⟨p, i :: is, u', e', by rw [List.append_assoc] at z; exact z, by rw [at?, e]; exact a⟩
def spPaths (K : PySem.W.Frag) : Nat → Sp
  | 0 => fun _ _ _ _ => False
  | n + 1 => fun vs H Q _ => ∃ (v : V) (t : Rw) (q : Addr) (ns : List Nat), vs = [v, .ref q] ∧ RwAt K H (n + 1) v t ∧ SqT K H q (VI ns) ∧ ns.length + n ≤ 100 ∧ t.size ≤ 50000 ∧ ∀ l H' xs, Same H H' → H' l = some (.lst xs) → xs.length = t.size → (∀ x ∈ xs, WayAt K H' t ns x) → Q (.ref l) H'
theorem sizes_take : ∀ (ts : List Rw) (i : Nat) (u : Rw), ts[i]? = some u → Rw.sizes (ts.take (i + 1)) = Rw.sizes (ts.take i) + u.size
  | [], i, u, h => by cases h
  | t :: ts, 0, u, h => by cases h; rw [List.take_succ_cons, List.take_zero, List.take_zero, Rw.sizes, Rw.sizes, Rw.sizes]; omega
  | t :: ts, i + 1, u, h => by
    rw [List.take_succ_cons, List.take_succ_cons, Rw.sizes, Rw.sizes, sizes_take ts i u h]
    omega
theorem sizes_take_le (ts : List Rw) (i : Nat) : Rw.sizes (ts.take i) ≤ Rw.sizes ts := by
  have h := Rw.sizes_app (ts.take i) (ts.drop i)
  rw [List.take_append_drop] at h
  omega
theorem All3.get {R : V → Rw → Prop} {xs : List V} {ts : List Rw} (h : All3 R xs ts) {i : Nat} {t : Rw} (ht : ts[i]? = some t) : ∃ x, xs[i]? = some x ∧ R x t := by
  have l : i < xs.length := by rw [h.1]; exact (List.getElem?_eq_some_iff.mp ht).1
  exact ⟨xs[i], List.getElem?_eq_getElem l, h.2 i _ t (List.getElem?_eq_getElem l) ht⟩
theorem cat_way {K : PySem.W.Frag} {H : Hp} {Q : VK} {a b : Addr} {xs ys : List V} (ha : SqT K H a xs) (hb : SqT K H b ys) (hz : xs.length + ys.length ≤ sizeLine) (w : ∀ p H', Same H H' → SqT K H' p (xs ++ ys) → Q (.ref p) H') : rCatA K (.ref a) (.ref b) H Q := by
  refine ⟨a, b, xs, ys, rfl, rfl, ha, hb, hz, fun e => w b H (Same.refl H) (by rw [e]; exact hb), fun _ e => w a H (Same.refl H) (by rw [e, List.append_nil]; exact ha), fun _ _ p np => w p _ (Same.new np) (SqT.of upd_same)⟩
theorem at0 {α : Type} {xs : List α} {i : Nat} {x : α} (h : xs[i]? = some x) : atI xs (0 + (i : Int)) = some x := by rw [show (0 : Int) + (i : Int) = (i : Int) by omega]; exact atI_nat h
/-- replaced at a way: some term, whose size is bounded -/
def spReplace (K : PySem.W.Frag) : Nat → Sp
  | 0 => fun _ _ _ _ => False
  | n + 1 => fun vs H Q _ => ∃ (v : V) (t u : Rw) (q : Addr) (ns : List Nat) (o : V) (ot : Rw) (m : Nat), vs = [v, .ref q, o] ∧ RwAt K H (n + 1) v t ∧ SqT K H q (VI ns) ∧ at? t ns = some u ∧ RwAt K H m o ot ∧ ∀ x H' t', Same H H' → RwAt K H' (n + m) x t' → t'.size ≤ t.size + ot.size → Q x H'
def VD (is : List Nat) : List PyData := is.map fun (i : Nat) => PyData.int ((i : Nat) : Int)
theorem VD_lay : ∀ is : List Nat, PyData.canLayAll0 (VD is) = true
  | [] => by simp [VD, PyData.canLayAll0]
  | i :: is => by
    have := VD_lay is
    unfold VD at this ⊢
    rw [List.map_cons, PyData.canLayAll0, this]
    simp [PyData.canLay0]
theorem VD_depth : ∀ is : List Nat, PyData.depthAll (VD is) = 0
  | [] => by simp [VD, PyData.depthAll]
  | i :: is => by
    have := VD_depth is
    unfold VD at this ⊢
    rw [List.map_cons, PyData.depthAll, this]
    simp [PyData.depth]
theorem VD_shaped (is : List Nat) : SeqAt.shaped (.tuple (VD is)) = true := by
  unfold SeqAt.shaped
  rw [PyData.canLay0, VD_lay, PyData.depth, VD_depth]
  rfl
theorem VD_all {K : PySem.W.Frag} {H : Hp} : ∀ is : List Nat, DpAll K H (VI is) (VD is)
  | [] => .nil
  | i :: is => .cons (.int _) (VD_all is)
theorem at_cons {t u : Rw} {i : Nat} {is : List Nat} (h : at? t (i :: is) = some u) : ∃ t1, t.subs[i]? = some t1 ∧ at? t1 is = some u := by
  rw [at?] at h
  cases e : t.subs[i]? with
  | none => rw [e] at h; cases h
  | some t1 => rw [e] at h; exact ⟨t1, rfl, h⟩
theorem sizes_set : ∀ (ts : List Rw) (i : Nat) (u v : Rw), ts[i]? = some u → Rw.sizes (ts.set i v) + u.size = Rw.sizes ts + v.size
  | [], i, u, v, h => by cases h
  | t :: ts, 0, u, v, h => by cases h; rw [List.set_cons_zero, Rw.sizes, Rw.sizes]; omega
  | t :: ts, i + 1, u, v, h => by
    have := sizes_set ts i u v h
    rw [List.set_cons_succ, Rw.sizes, Rw.sizes]
    omega
theorem All3.set {R : V → Rw → Prop} {xs : List V} {ts : List Rw} (h : All3 R xs ts) (i : Nat) {x : V} {t : Rw} (k : R x t) : All3 R (xs.set i x) (ts.set i t) := by
  refine ⟨by rw [List.length_set, List.length_set]; exact h.1, fun j y u a b => ?_⟩
  rw [List.getElem?_set] at a b
  by_cases e : i = j
  · rw [if_pos e] at a b
    split at a
    · cases a
      split at b
      · cases b; exact k
      · cases b
    · cases a
  · rw [if_neg e] at a b
    exact h.2 j y u a b
/-- what stands at i in the tuple: the subterm itself, or a pair -/
def Slot (K : PySem.W.Frag) (H : Hp) (i : Nat) (val fr : V) : Rk → Prop
  | .mx ws => ∃ tp wv f, val = .ref tp ∧ SqT K H tp [wv, fr] ∧ ws[i]? = some f ∧ FrW K H wv f
  | _ => val = fr
theorem RRest.set {K : PySem.W.Frag} {H : Hp} {k : Rk} {ys xs : List V} {i : Nat} {val fr : V} (h : RRest K H k ys xs) (hi : i < xs.length) (hs : Slot K H i val fr k) : RRest K H k (ys.set i val) (xs.set i fr) := by
  match k, h, hs with
  | .ev ss, ⟨a, _⟩, _ => subst a; exact absurd hi (Nat.not_lt_zero _)
  | .dl none, ⟨x, e1, e2⟩, hs =>
    subst e1 e2
    have : i = 0 := by have : i < 1 := hi; omega
    subst this
    have hs' : val = fr := hs
    subst hs'
    exact ⟨val, rfl, rfl⟩
  | .dl (some f), ⟨x, fv, e1, e2, hf⟩, hs =>
    subst e1 e2
    have : i = 0 := by have : i < 1 := hi; omega
    subst this
    have hs' : val = fr := hs
    subst hs'
    exact ⟨val, fv, rfl, rfl, hf⟩
  | .mx ws, ⟨l1, l2, hm⟩, ⟨tp, wv, f, e, ht, hw, hf⟩ =>
    refine ⟨by rw [List.length_set, List.length_set]; exact l1, by rw [List.length_set]; exact l2, fun j y x g a b c => ?_⟩
    rw [List.getElem?_set] at a b
    by_cases q : i = j
    · subst q
      rw [if_pos rfl] at a b
      rw [if_pos (by omega)] at a b
      rw [hw] at c
      cases a
      cases b
      cases c
      exact ⟨tp, wv, e, ht, hf⟩
    · rw [if_neg q] at a b
      exact hm j y x g a b c
  | .nn k, ⟨n1, n2, n3, e⟩, hs =>
    have hs' : val = fr := hs
    subst e hs'
    exact ⟨n1, n2, n3, rfl⟩
theorem RRest.imp {K : PySem.W.Frag} {H H' : Hp} (sT : ∀ p xs, SqT K H p xs → SqT K H' p xs) {k : Rk} {ys xs : List V} (h : RRest K H k ys xs) : RRest K H' k ys xs := by
  match k, h with
  | .ev ss, h => exact h
  | .dl none, h => exact h
  | .dl (some f), ⟨x, fv, e1, e2, w⟩ => exact ⟨x, fv, e1, e2, w.imp sT⟩
  | .mx ws, ⟨l1, l2, h⟩ =>
    refine ⟨l1, l2, fun i y x f a b c => ?_⟩
    obtain ⟨q, wv, e', h3, h4⟩ := h i y x f a b c
    exact ⟨q, wv, e', sT _ _ h3, h4.imp sT⟩
  | .nn k, h => exact h
theorem RRest.len {K : PySem.W.Frag} {H : Hp} {k : Rk} {ys xs : List V} (h : RRest K H k ys xs) : xs.length ≤ ys.length := by
  match k, h with
  | .ev ss, ⟨a, _⟩ => rw [a]; exact Nat.zero_le _
  | .dl none, ⟨x, e1, e2⟩ => rw [e1, e2]; exact Nat.le_refl _
  | .dl (some f), ⟨x, fv, e1, e2, _⟩ => rw [e1, e2]; exact Nat.le_succ _
  | .mx ws, ⟨l1, _⟩ => rw [l1]; exact Nat.le_refl _
  | .nn k, ⟨_, _, _, e⟩ => rw [e]; exact Nat.le_refl _
theorem ixN_succ {n j : Nat} (h : j < n) : ixN (n + 1) (1 + (j : Int)) = some (j + 1) := by
  unfold ixN
  rw [if_pos (by omega), if_pos (by omega), show (1 + (j : Int)).toNat = j + 1 by omega]
theorem at1 {α : Type} {x y : α} {xs : List α} {i : Nat} (h : xs[i]? = some x) : atI (y :: xs) (1 + (i : Int)) = some x := by rw [show (1 : Int) + (i : Int) = ((i + 1 : Nat) : Int) by omega]; exact atI_nat h
theorem sizes_at : ∀ {ts : List Rw} {i : Nat} {u : Rw}, ts[i]? = some u → u.size ≤ Rw.sizes ts
  | [], i, u, h => by cases h
  | t :: ts, 0, u, h => by cases h; rw [Rw.sizes]; omega
  | t :: ts, i + 1, u, h => by have := sizes_at (ts := ts) h; rw [Rw.sizes]; omega
theorem at_size : ∀ {is : List Nat} {t u : Rw}, at? t is = some u → u.size ≤ t.size
  | [], t, u, h => by rw [at?] at h; cases h; exact Nat.le_refl _
  | i :: is, t, u, h => by
    obtain ⟨t1, h1, h2⟩ := at_cons h
    have := at_size h2
    have := sizes_at h1
    rw [t.size_eq]
    omega
theorem RwAt.low {K : PySem.W.Frag} {H : Hp} : ∀ {d n : Nat} {v : V} {t : Rw}, RwAt K H n v t → isT d t = true → RwAt K H d v t
  | 0, _, _, _, _, h => by cases h
  | d + 1, 0, _, _, h, _ => h.elim
  | d + 1, n + 1, v, .mk k ts, ⟨l, xs, h1, h2⟩, h => by
    have h' : (formK k ts.length && ts.all (isT d)) = true := h
    rw [Bool.and_eq_true] at h'
    exact ⟨l, xs, h1, h2.1, fun i x t a b => RwAt.low (h2.2 i x t a b) (List.all_eq_true.mp h'.2 t (List.mem_of_getElem? b))⟩
section
variable {K : PySem.W.Frag} {H H' : Hp} {p : Addr} {m : Nat} {x : V} {u : Rw}
theorem mkEv {ss : List Str} (l1 : ss.length ≤ 2000) (l2 : ∀ s ∈ ss, s.length ≤ 4000) (z : SqT K H p (.str "event" :: ss.map V.str)) : RwAt K H (m + 1) (.ref p) (.mk (.ev ss) []) := ⟨Nat.zero_le _, [], ⟨rfl, l1, l2, p, rfl, z⟩, All3.nil⟩
theorem mkDl {fv : V} {f : QQ} (z : SqT K H p [.str "delay", x, fv]) (hf : FrW K H fv f) (h : RwAt K H m x u) : RwAt K H (m + 1) (.ref p) (.mk (.dl (some f)) [u]) := ⟨by show 1 ≤ 2000; decide, [x], ⟨p, x, fv, rfl, rfl, z, hf⟩, All3.one h⟩
theorem mkD0 (z : SqT K H p [.str "delay", x]) (h : RwAt K H m x u) : RwAt K H (m + 1) (.ref p) (.mk (.dl none) [u]) := ⟨by show 1 ≤ 2000; decide, [x], ⟨p, x, rfl, rfl, z⟩, All3.one h⟩
theorem mkMx {q1 q2 : Addr} {w1 w2 : V} {f1 f2 : QQ} (z : SqT K H p [.str "mix", .ref q1, .ref q2]) (z1 : SqT K H q1 [w1, x]) (z2 : SqT K H q2 [w2, x]) (h1 : FrW K H w1 f1) (h2 : FrW K H w2 f2) (h : RwAt K H m x u) : RwAt K H (m + 1) (.ref p) (.mk (.mx [f1, f2]) [u, u]) := by
  refine ⟨by show 2 ≤ 2000; decide, [x, x], ⟨p, [.ref q1, .ref q2], rfl, z, rfl, rfl, fun i y x' f a b c => ?_⟩, All3.cons h (All3.one h)⟩
  match i, a, b, c with
  | 0, a, b, c => cases a; cases b; cases c; exact ⟨q1, w1, rfl, z1, h1⟩
  | 1, a, b, c => cases a; cases b; cases c; exact ⟨q2, w2, rfl, z2, h2⟩
theorem mkM0 (z : SqT K H p [.str "mix"]) : RwAt K H (m + 1) (.ref p) (.mk (.mx []) []) := ⟨Nat.zero_le _, [], ⟨p, [], rfl, z, rfl, rfl, fun i y x' f a b c => by cases a⟩, All3.nil⟩
theorem mkNn {k : Str} {xs : List V} {ts : List Rw} (n1 : k ≠ "event") (n2 : k ≠ "delay") (n3 : k ≠ "mix") (l : ts.length ≤ 2000) (z : SqT K H p (.str k :: xs)) (h : All3 (RwAt K H m) xs ts) : RwAt K H (m + 1) (.ref p) (.mk (.nn k) ts) := ⟨l, xs, ⟨n1, n2, n3, p, rfl, z⟩, h⟩
/-- some term, not deeper than m, of at most B parts -/
def Ok (K : PySem.W.Frag) (H : Hp) (m B : Nat) (x : V) : Prop := ∃ t, RwAt K H m x t ∧ t.size ≤ B
theorem Ok.same {B : Nat} (h : Ok K H m B x) (s : Same H H') : Ok K H' m B x := by
  obtain ⟨t, a, b⟩ := h
  exact ⟨t, a.same s, b⟩
theorem Ok.kp {B : Nat} {r : Addr} (R : Rg H r) (k : Kp r H H') (h : Ok K H m B x) : Ok K H' m B x := by
  obtain ⟨t, a, b⟩ := h
  exact ⟨t, a.kp R k, b⟩
theorem Ok.le {B m' B' : Nat} (h : Ok K H m B x) (l : m ≤ m') (l2 : B ≤ B') : Ok K H m' B' x := by
  obtain ⟨t, a, b⟩ := h
  exact ⟨t, a.le l, Nat.le_trans b l2⟩
theorem Ok.snoc {B : Nat} {l : List V} {y : V} (h : ∀ z ∈ l, Ok K H m B z) (s : Same H H') (k : Ok K H' m B y) : ∀ z ∈ l ++ [y], Ok K H' m B z := fun z hz => by
  rcases List.mem_append.mp hz with q | q
  · exact (h z q).same s
  · rw [List.mem_singleton.mp q]; exact k
end
theorem go_if3 {c : TT} {b rest : TS} {D : Ends} {σ : L2.St} {H : Hp} (J : L2.St → Hp → Prop) (main : ∀ σ' H', J σ' H' → rest D σ' H') (step : ∀ D' : Ends, (∀ σ' H', J σ' H' → D'.nx σ' H') → tIfS c b tNext D' σ H) : tSeq (tIfS c b tNext) rest D σ H := step _ main
theorem mkFr {K : PySem.W.Frag} {H : Hp} {p : Addr} {a b : Int} (z : SqT K H p [.int a, .int b]) (ha : a.natAbs < 2 ^ 120) (hb : b.natAbs < 2 ^ 120) : FrW K H (.ref p) (a, b) := ⟨⟨p, rfl, z⟩, ha, hb⟩
theorem sz1 (k : Rk) (u : Rw) : (Rw.mk k [u]).size = 1 + u.size := by rw [Rw.size, Rw.sizes, Rw.sizes]; omega
theorem sz2 (k : Rk) (u v : Rw) : (Rw.mk k [u, v]).size = 1 + u.size + v.size := by rw [Rw.size, Rw.sizes, Rw.sizes, Rw.sizes]; omega
theorem sz0 (k : Rk) : (Rw.mk k []).size = 1 := by rw [Rw.size, Rw.sizes]
theorem Ok.none {K : PySem.W.Frag} {H : Hp} {m B : Nat} : ∀ z ∈ ([] : List V), Ok K H m B z := fun z hz => by cases hz
theorem all_snoc {P P' : V → Prop} {l : List V} {y : V} (h : ∀ z ∈ l, P z) (s : ∀ z, P z → P' z) (k : P' y) : ∀ z ∈ l ++ [y], P' z := fun z hz => by
  rcases List.mem_append.mp hz with q | q
  · exact s z (h z q)
  · rw [List.mem_singleton.mp q]; exact k
def FOk (K : PySem.W.Frag) (H : Hp) (v : V) : Prop := ∃ f, FrW K H v f
theorem FOk.same {K : PySem.W.Frag} {H H' : Hp} (s : Same H H') (v : V) (h : FOk K H v) : FOk K H' v := ⟨h.choose, h.choose_spec.same s⟩
theorem FrW.kp {K : PySem.W.Frag} {H H' : Hp} {r : Addr} {v : V} {f : QQ} (R : Rg H r) (k : Kp r H H') (h : FrW K H v f) : FrW K H' v f := h.imp fun _ _ z => RgT R k z
theorem sizes_rep (u : Rw) : ∀ n, Rw.sizes (List.replicate n u) = n * u.size
  | 0 => by rw [List.replicate_zero, Rw.sizes, Nat.zero_mul]
  | n + 1 => by rw [List.replicate_succ, Rw.sizes, sizes_rep u n, Nat.add_mul]; omega
theorem sqN {K : PySem.W.Frag} {H : Hp} {p : Addr} {xs : List V} (_ : H p = none) : SqT K (upd H p (.tup xs)) p xs := SqT.of upd_same
theorem Eqd.frw {K : PySem.W.Frag} {H : Hp} {n : Nat} {v u : V} {f : QQ} (a : FrW K H v f) (b : FrW K H u f) : Eqd K H (n + 1) v u := by
  obtain ⟨p, rfl, hp⟩ := a.fr
  obtain ⟨q, rfl, hq⟩ := b.fr
  exact Eqd.tup hp hq rfl (by show 2 ≤ 100000; decide) (all2_cons (Eqd.atom rfl) (all2_cons (Eqd.atom rfl) all2_nil))
/-- the same term twice in memory -/
theorem RwAt.eqd {K : PySem.W.Frag} {H : Hp} : ∀ {n : Nat} {v u : V} {t : Rw}, RwAt K H n v t → RwAt K H n u t → Eqd K H (2 * n) v u
  | 0, _, _, _, h, _ => h.elim
  | n + 1, v, u, .mk k ts, ⟨l, xs, h1, h2⟩, ⟨_, ys, k1, k2⟩ => by
    have hl : xs.length = ys.length := by rw [h2.1, k2.1]
    have sub : ∀ (i : Nat) x y, xs[i]? = some x → ys[i]? = some y → Eqd K H (2 * n) x y := fun i x y hx hy => by
      obtain ⟨t, ht, hx'⟩ := h2.at hx
      exact RwAt.eqd hx' (k2.2 i y t hy ht)
    have xl : xs.length ≤ 2000 := by rw [h2.1]; exact l
    show Eqd K H (2 * n + 1 + 1) v u
    match k, h1, k1 with
    | .ev ss, ⟨ex, a1, a2, p, e, z⟩, ⟨_, _, _, q, e', z'⟩ =>
      subst e e'
      refine Eqd.tup z z' rfl (by rw [List.length_cons, List.length_map]; omega) (all2_cons (Eqd.atom rfl) fun i x y hx hy => ?_)
      rw [hx] at hy
      cases hy
      obtain ⟨s, _, rfl⟩ := List.mem_map.mp (List.mem_of_getElem? hx)
      exact Eqd.atom rfl
    | .dl none, ⟨p, x, ex, e, z⟩, ⟨q, y, ey, e', z'⟩ =>
      subst e e' ex ey
      exact Eqd.tup z z' rfl (by show 2 ≤ 100000; decide) (all2_cons (Eqd.atom rfl) (all2_cons (sub 0 x y rfl rfl).up all2_nil))
    | .dl (some f), ⟨p, x, fv, ex, e, z, fw⟩, ⟨q, y, gv, ey, e', z', gw⟩ =>
      subst e e' ex ey
      exact Eqd.tup z z' rfl (by show 3 ≤ 100000; decide) (all2_cons (Eqd.atom rfl) (all2_cons (sub 0 x y rfl rfl).up (all2_cons (Eqd.frw fw gw) all2_nil)))
    | .mx ws, ⟨p, as, e, z, l1, l2, hm⟩, ⟨q, bs, e', z', m1, m2, km⟩ =>
      subst e e'
      refine Eqd.tup z z' (by rw [List.length_cons, List.length_cons]; omega) (by rw [List.length_cons]; omega) (all2_cons (Eqd.atom rfl) fun i a b ha hb => ?_)
      have il : i < as.length := (List.getElem?_eq_some_iff.mp ha).1
      have hx : xs[i]? = some (xs[i]'(by omega)) := List.getElem?_eq_getElem _
      have hy : ys[i]? = some (ys[i]'(by omega)) := List.getElem?_eq_getElem _
      have hw : ws[i]? = some (ws[i]'(by omega)) := List.getElem?_eq_getElem _
      obtain ⟨a', wv, rfl, s1, f1⟩ := hm i a _ _ ha hx hw
      obtain ⟨b', uv, rfl, s2, f2⟩ := km i b _ _ hb hy hw
      have sx := sub i _ _ hx hy
      refine Eqd.tup s1 s2 rfl (by show 2 ≤ 100000; decide) (all2_cons ?_ (all2_cons sx all2_nil))
      cases n with
      | zero =>
        obtain ⟨t, ht, hx'⟩ := h2.at hx
        exact hx'.elim
      | succ n => exact Eqd.frw f1 f2
    | .nn kk, ⟨_, _, _, p, e, z⟩, ⟨_, _, _, q, e', z'⟩ =>
      subst e e'
      exact Eqd.tup z z' (by rw [List.length_cons, List.length_cons, hl]) (by rw [List.length_cons]; omega) (all2_cons (Eqd.atom rfl) fun i x y hx hy => (sub i x y hx hy).up)
/-! ### lists of fractions -/
/-- a list of n fractions of B bits, at none of the places bad -/
def VecAt (K : PySem.W.Frag) (H : Hp) (B n : Nat) (bad : List Addr) (v : V) : Prop := ∃ p zs, v = .ref p ∧ p ∉ bad ∧ H p = some (.lst zs) ∧ zs.length = n ∧ ∀ z ∈ zs, ∃ q, FR K H z q B
section
variable {K : PySem.W.Frag} {H H' : Hp} {B n : Nat} {bad : List Addr} {v : V}
theorem VecAt.same (h : VecAt K H B n bad v) (s : Same H H') : VecAt K H' B n bad v := by
  obtain ⟨p, zs, e, nb, hp, l, f⟩ := h
  exact ⟨p, zs, e, nb, s _ _ hp, l, fun z hz => by obtain ⟨q, g⟩ := f z hz; exact ⟨q, g.same s⟩⟩
theorem VecAt.kp {r : Addr} (h : VecAt K H B n bad v) (R : Rg H r) (k : Kp r H H') (m : r ∈ bad) : VecAt K H' B n bad v := by
  obtain ⟨p, zs, e, nb, hp, l, f⟩ := h
  exact ⟨p, zs, e, nb, k.1 _ _ (fun z => nb (z ▸ m)) hp, l, fun z hz => by obtain ⟨q, g⟩ := f z hz; exact ⟨q, g.kp R k⟩⟩
theorem VecAt.put {D : Addr} {l l' : List V} (h : VecAt K H B n bad v) (hD : H D = some (.lst l)) (m : D ∈ bad) : VecAt K (upd H D (.lst l')) B n bad v := by
  obtain ⟨p, zs, e, nb, hp, l, f⟩ := h
  exact ⟨p, zs, e, nb, by rw [upd_ne (show p ≠ D from fun z => nb (by rw [z]; exact m))]; exact hp, l, fun z hz => by obtain ⟨q, g⟩ := f z hz; exact ⟨q, g.put hD⟩⟩
theorem VecAt.sub {bad' : List Addr} (h : VecAt K H B n bad v) (s : ∀ x ∈ bad', x ∈ bad) : VecAt K H B n bad' v := by
  obtain ⟨p, zs, e, nb, hp, l, f⟩ := h
  exact ⟨p, zs, e, fun z => nb (s _ z), hp, l, f⟩
theorem VecAt.up {C : Nat} (h : VecAt K H B n bad v) (l : B ≤ C) : VecAt K H C n bad v := by
  obtain ⟨p, zs, e, nb, hp, l', f⟩ := h
  exact ⟨p, zs, e, nb, hp, l', fun z hz => by obtain ⟨q, g⟩ := f z hz; exact ⟨q, g.up l⟩⟩
end
/-- fractions, whichever -/
def FOf (K : PySem.W.Frag) (H : Hp) (B : Nat) (xs : List V) : Prop := ∀ z ∈ xs, ∃ q, FR K H z q B
theorem FOf.same {K : PySem.W.Frag} {H H' : Hp} {B : Nat} {xs : List V} (h : FOf K H B xs) (s : Same H H') : FOf K H' B xs := fun z hz => by obtain ⟨q, g⟩ := h z hz; exact ⟨q, g.same s⟩
theorem FOf.kp {K : PySem.W.Frag} {H H' : Hp} {r : Addr} {B : Nat} {xs : List V} (h : FOf K H B xs) (R : Rg H r) (k : Kp r H H') : FOf K H' B xs := fun z hz => by obtain ⟨q, g⟩ := h z hz; exact ⟨q, g.kp R k⟩
theorem FOf.put {K : PySem.W.Frag} {H : Hp} {D : Addr} {B : Nat} {l l' xs : List V} (h : FOf K H B xs) (hD : H D = some (.lst l)) : FOf K (upd H D (.lst l')) B xs := fun z hz => by obtain ⟨q, g⟩ := h z hz; exact ⟨q, g.put hD⟩
theorem FOf.nil {K : PySem.W.Frag} {H : Hp} {B : Nat} : FOf K H B [] := fun z hz => by cases hz
theorem FOf.snoc {K : PySem.W.Frag} {H : Hp} {B : Nat} {xs : List V} {y : V} {q : Rat} (h : FOf K H B xs) (g : FR K H y q B) : FOf K H B (xs ++ [y]) := fun z hz => by
  rcases List.mem_append.mp hz with h' | h'
  · exact h z h'
  · rw [List.mem_singleton.mp h']; exact ⟨q, g⟩
theorem zipAK {X : Cx} {K : PySem.W.Frag} (h : X.K = K) {e e2 : Expr} {ta : TA} {p pos tpos : Pos} {elts : List Expr} {kk : Nat} (hg : Gl X "zip") (hm : X.mg "zip" = none) (ha : PA X [e, e2] ta)
    (hs : starEach [e, e2] X.env = (false, eval e X.env) :: starEach [e2] X.env := by rfl) (hpl : (backTo pos (starEach [e2] X.env)).any (·.1) = false := by rfl) :
    PI X (.Tuple elts kk tpos) (.Call (.Name "zip" p) [e, e2] [] pos) (RZ.iZipA K ta) := by subst h; exact RZ.pi_zipA hg hm ha hs hpl
theorem cutToL (xs : List V) (q : Nat) (h : q ≤ xs.length) : cutV xs none (some (q : Int)) = xs.take q := by
  unfold cutV
  rw [HT.sIx_none, show HT.sIx xs.length xs.length (some (q : Int)) = min q xs.length from HT.sIx_nat xs.length xs.length q, List.drop_zero, show min q xs.length - 0 = q by omega]
theorem cutFromL (xs : List V) (q : Nat) (h : q ≤ xs.length) : cutV xs (some (q : Int)) none = xs.drop q := by
  unfold cutV
  rw [HT.sIx_none, show HT.sIx xs.length 0 (some (q : Int)) = min q xs.length from HT.sIx_nat xs.length 0 q, show min q xs.length = q by omega, List.take_of_length_le (by rw [List.length_drop]; omega)]

def topS (i : Nat) : Stmt := PySem.Challenge.pw_gaithold_k21_invalid_shapes.main.body.getD i (.Pass ⟨0, 0, 0, 0⟩)
abbrev s_i_GaitError : Stmt := (inClass (topS 1) 0)
theorem sc_i_GaitError : FnScope ["self", "tag", "message"] ["self", "tag", "message"] (defScope s_i_GaitError) := ⟨rfl, rfl, rfl, by decide +kernel, rfl, by decide +kernel, by decide +kernel⟩
abbrev s_i_InvalidShape : Stmt := (inClass (topS 3) 0)
theorem sc_i_InvalidShape : FnScope ["self", "pos"] ["self", "pos"] (defScope s_i_InvalidShape) := ⟨rfl, rfl, rfl, by decide +kernel, rfl, by decide +kernel, by decide +kernel⟩
abbrev s_i_ZeroDenominator : Stmt := (inClass (topS 4) 0)
theorem sc_i_ZeroDenominator : FnScope ["self"] ["self"] (defScope s_i_ZeroDenominator) := ⟨rfl, rfl, rfl, by decide +kernel, rfl, by decide +kernel, by decide +kernel⟩
abbrev s_p_greatest_divisor : Stmt := topS 8
theorem sc_p_greatest_divisor : FnScope ["one", "other"] ["one", "other"] (defScope s_p_greatest_divisor) := ⟨rfl, rfl, rfl, by decide +kernel, rfl, by decide +kernel, by decide +kernel⟩
abbrev s_p_least_multiple : Stmt := topS 9
theorem sc_p_least_multiple : FnScope ["one", "other"] ["one", "other"] (defScope s_p_least_multiple) := ⟨rfl, rfl, rfl, by decide +kernel, rfl, by decide +kernel, by decide +kernel⟩
abbrev s_p_common_denominator : Stmt := topS 10
theorem sc_p_common_denominator : FnScope ["row", "result", "num", "den"] ["row"] (defScope s_p_common_denominator) := ⟨rfl, rfl, rfl, by decide +kernel, rfl, by decide +kernel, by decide +kernel⟩
abbrev s_p_fraction : Stmt := topS 11
theorem sc_p_fraction : FnScope ["num", "den", "divisor"] ["num", "den"] (defScope s_p_fraction) := ⟨rfl, rfl, rfl, by decide +kernel, rfl, by decide +kernel, by decide +kernel⟩
abbrev s_p_check_shape : Stmt := topS 13
theorem sc_p_check_shape : FnScope ["rows", "targets", "at", "row"] ["rows", "targets"] (defScope s_p_check_shape) := ⟨rfl, rfl, rfl, by decide +kernel, rfl, by decide +kernel, by decide +kernel⟩
abbrev s_p_columns_of : Stmt := topS 14
theorem sc_p_columns_of : FnScope ["rows", "column"] ["rows"] (defScope s_p_columns_of) := ⟨rfl, rfl, rfl, by decide +kernel, rfl, by decide +kernel, by decide +kernel⟩
abbrev s_p_as_integers : Stmt := topS 15
theorem sc_p_as_integers : FnScope ["row", "scale", "num", "den"] ["row"] (defScope s_p_as_integers) := ⟨rfl, rfl, rfl, by decide +kernel, rfl, by decide +kernel, by decide +kernel⟩
abbrev s_p_clear_column : Stmt := topS 16
theorem sc_p_clear_column : FnScope ["row", "pivot_row", "column", "last_pivot", "factor", "pivot", "one", "other"] ["row", "pivot_row", "column", "last_pivot"] (defScope s_p_clear_column) := ⟨rfl, rfl, rfl, by decide +kernel, rfl, by decide +kernel, by decide +kernel⟩
abbrev s_p_first_nonzero : Stmt := topS 17
theorem sc_p_first_nonzero : FnScope ["row", "at", "one"] ["row"] (defScope s_p_first_nonzero) := ⟨rfl, rfl, rfl, by decide +kernel, rfl, by decide +kernel, by decide +kernel⟩
abbrev s_p_eliminate : Stmt := topS 18
theorem sc_p_eliminate : FnScope ["rows", "width", "columns", "done", "rest", "last_pivot", "column", "at", "pivot_row", "row"] ["rows", "width"] (defScope s_p_eliminate) := ⟨rfl, rfl, rfl, by decide +kernel, rfl, by decide +kernel, by decide +kernel⟩
abbrev s_p_solution_of : Stmt := topS 19
theorem sc_p_solution_of : FnScope ["rows", "width", "columns", "done", "rest", "values", "column", "row"] ["rows", "width"] (defScope s_p_solution_of) := ⟨rfl, rfl, rfl, by decide +kernel, rfl, by decide +kernel, by decide +kernel⟩
abbrev s_p_solve_linear : Stmt := topS 20
theorem sc_p_solve_linear : FnScope ["rows", "targets", "columns", "values", "cancelled", "row", "target", "column"] ["rows", "targets"] (defScope s_p_solve_linear) := ⟨rfl, rfl, rfl, by decide +kernel, rfl, by decide +kernel, by decide +kernel⟩
abbrev s_p_cancels : Stmt := topS 21
theorem sc_p_cancels : FnScope ["row", "factors", "one", "factor"] ["row", "factors"] (defScope s_p_cancels) := ⟨rfl, rfl, rfl, by decide +kernel, rfl, by decide +kernel, by decide +kernel⟩
abbrev s_p_is_solution : Stmt := topS 22
theorem sc_p_is_solution : FnScope ["rows", "targets", "values", "factors", "row", "target"] ["rows", "targets", "values"] (defScope s_p_is_solution) := ⟨rfl, rfl, rfl, by decide +kernel, rfl, by decide +kernel, by decide +kernel⟩
abbrev s_p_is_certificate : Stmt := topS 23
theorem sc_p_is_certificate : FnScope ["rows", "targets", "weights", "factors", "column"] ["rows", "targets", "weights"] (defScope s_p_is_certificate) := ⟨rfl, rfl, rfl, by decide +kernel, rfl, by decide +kernel, by decide +kernel⟩
abbrev s_p_check_solution : Stmt := topS 24
theorem sc_p_check_solution : FnScope ["rows", "targets", "answer", "tag", "values"] ["rows", "targets", "answer"] (defScope s_p_check_solution) := ⟨rfl, rfl, rfl, by decide +kernel, rfl, by decide +kernel, by decide +kernel⟩
abbrev s_l_source : Stmt := topS 26
theorem sc_l_source : FnScope ["_law_script", "_law_knot", "_law_cell"] ["_law_script"] (defScope s_l_source) := ⟨rfl, rfl, rfl, by decide +kernel, rfl, by decide +kernel, by decide +kernel⟩
abbrev s_l_draw : Stmt := topS 27
theorem sc_l_draw : FnScope ["_law_rng", "_law_quantity", "_law_cell", "_law_got", "_law_seed"] ["_law_rng", "_law_quantity"] (defScope s_l_draw) := ⟨rfl, rfl, rfl, by decide +kernel, rfl, by decide +kernel, by decide +kernel⟩
abbrev s_l_choice : Stmt := topS 28
theorem sc_l_choice : FnScope ["_law_rng", "_law_some"] ["_law_rng", "_law_some"] (defScope s_l_choice) := ⟨rfl, rfl, rfl, by decide +kernel, rfl, by decide +kernel, by decide +kernel⟩
abbrev s_l_equal : Stmt := topS 29
theorem sc_l_equal : FnScope ["_law_result", "_law_expected", "_law_one", "_law_other"] ["_law_result", "_law_expected"] (defScope s_l_equal) := ⟨rfl, rfl, rfl, by decide +kernel, rfl, by decide +kernel, by decide +kernel⟩
abbrev s_l_error_field : Stmt := topS 30
theorem sc_l_error_field : FnScope ["_law_e"] ["_law_e"] (defScope s_l_error_field) := ⟨rfl, rfl, rfl, by decide +kernel, rfl, by decide +kernel, by decide +kernel⟩
abbrev s_l_outcome : Stmt := topS 31
theorem sc_l_outcome : FnScope ["_law_ask", "_law_answer", "_law_tag", "_law_field", "_law_e"] ["_law_ask"] (defScope s_l_outcome) := ⟨rfl, rfl, rfl, by decide +kernel, rfl, by decide +kernel, by decide +kernel⟩
abbrev s_l_error : Stmt := topS 32
theorem sc_l_error : FnScope ["_law_ask"] ["_law_ask"] (defScope s_l_error) := ⟨rfl, rfl, rfl, by decide +kernel, rfl, by decide +kernel, by decide +kernel⟩
abbrev s_l_reduce : Stmt := topS 33
theorem sc_l_reduce : FnScope ["_law_num", "_law_den", "_law_one", "_law_other", "_law_sign"] ["_law_num", "_law_den"] (defScope s_l_reduce) := ⟨rfl, rfl, rfl, by decide +kernel, rfl, by decide +kernel, by decide +kernel⟩
abbrev s_l_add : Stmt := topS 34
theorem sc_l_add : FnScope ["_law_one", "_law_other"] ["_law_one", "_law_other"] (defScope s_l_add) := ⟨rfl, rfl, rfl, by decide +kernel, rfl, by decide +kernel, by decide +kernel⟩
abbrev s_l_multiply : Stmt := topS 35
theorem sc_l_multiply : FnScope ["_law_one", "_law_other"] ["_law_one", "_law_other"] (defScope s_l_multiply) := ⟨rfl, rfl, rfl, by decide +kernel, rfl, by decide +kernel, by decide +kernel⟩
abbrev s_l_sum : Stmt := topS 36
theorem sc_l_sum : FnScope ["_law_some", "_law_result", "_law_one"] ["_law_some"] (defScope s_l_sum) := ⟨rfl, rfl, rfl, by decide +kernel, rfl, by decide +kernel, by decide +kernel⟩
abbrev s_l_small : Stmt := topS 37
theorem sc_l_small : FnScope ["_law_rng"] ["_law_rng"] (defScope s_l_small) := ⟨rfl, rfl, rfl, by decide +kernel, rfl, by decide +kernel, by decide +kernel⟩
abbrev s_l_linear_case : Stmt := topS 38
theorem sc_l_linear_case : FnScope ["_law_rng", "_law_quantity", "_law_wide", "_law_rows", "_law_amount", "_law_met", "_law_targets", "_law_j", "_law_k", "_law_x", "_law_y", "_law_row"] ["_law_rng"] (defScope s_l_linear_case) := ⟨rfl, rfl, rfl, by decide +kernel, rfl, by decide +kernel, by decide +kernel⟩
abbrev s_p_law : Stmt := topS 39
theorem sc_p_law : FnScope ["_law_script", "_law_rng", "_law_turn", "_law_rows", "_law_targets", "_law_pos", "_law_pick", "_law_expected", "_law_result"] ["_law_script"] (defScope s_p_law) := ⟨rfl, rfl, rfl, by decide +kernel, rfl, by decide +kernel, by decide +kernel⟩
structure Ad where
  f_i_GaitError : Addr
  fd_i_GaitError : FuncData
  f_i_InvalidShape : Addr
  fd_i_InvalidShape : FuncData
  f_i_ZeroDenominator : Addr
  fd_i_ZeroDenominator : FuncData
  f_p_greatest_divisor : Addr
  fd_p_greatest_divisor : FuncData
  f_p_least_multiple : Addr
  fd_p_least_multiple : FuncData
  f_p_common_denominator : Addr
  fd_p_common_denominator : FuncData
  f_p_fraction : Addr
  fd_p_fraction : FuncData
  f_p_check_shape : Addr
  fd_p_check_shape : FuncData
  f_p_columns_of : Addr
  fd_p_columns_of : FuncData
  f_p_as_integers : Addr
  fd_p_as_integers : FuncData
  f_p_clear_column : Addr
  fd_p_clear_column : FuncData
  f_p_first_nonzero : Addr
  fd_p_first_nonzero : FuncData
  f_p_eliminate : Addr
  fd_p_eliminate : FuncData
  f_p_solution_of : Addr
  fd_p_solution_of : FuncData
  f_p_solve_linear : Addr
  fd_p_solve_linear : FuncData
  f_p_cancels : Addr
  fd_p_cancels : FuncData
  f_p_is_solution : Addr
  fd_p_is_solution : FuncData
  f_p_is_certificate : Addr
  fd_p_is_certificate : FuncData
  f_p_check_solution : Addr
  fd_p_check_solution : FuncData
  f_l_source : Addr
  fd_l_source : FuncData
  f_l_draw : Addr
  fd_l_draw : FuncData
  f_l_choice : Addr
  fd_l_choice : FuncData
  f_l_equal : Addr
  fd_l_equal : FuncData
  f_l_error_field : Addr
  fd_l_error_field : FuncData
  f_l_outcome : Addr
  fd_l_outcome : FuncData
  f_l_error : Addr
  fd_l_error : FuncData
  f_l_reduce : Addr
  fd_l_reduce : FuncData
  f_l_add : Addr
  fd_l_add : FuncData
  f_l_multiply : Addr
  fd_l_multiply : FuncData
  f_l_sum : Addr
  fd_l_sum : FuncData
  f_l_small : Addr
  fd_l_small : FuncData
  f_l_linear_case : Addr
  fd_l_linear_case : FuncData
  f_p_law : Addr
  fd_p_law : FuncData
  o_ZERO : Addr
  C_GaitError : Addr
  C_NotFound : Addr
  C_ZeroDenominator : Addr
  C_EmptyHistory : Addr
  C_InvalidShape : Addr
  cL : Addr
  tL : Addr

structure Txt (K : PySem.W.Frag) (mg : Str → Option Value) (a : Ad) : Prop where
  iC_GaitError : PySem.W.findIn K (.ref a.C_GaitError) "__init__" = some (some (.ref a.f_i_GaitError))
  tI_GaitError : PySem.W.typeIn K (.ref a.f_i_GaitError) = some (.type "function")
  F_i_GaitError : FunD K "__init__" "GaitError.__init__" (defArgs s_i_GaitError) (defBody s_i_GaitError) (defScope s_i_GaitError) [(.str "GaitError"), (.str "")] [] a.f_i_GaitError a.fd_i_GaitError
  b_i_GaitError_3 : ∃ ds, Vals [] ds ∧ Binds K a.fd_i_GaitError ["self", "tag", "message"] ds
  iC_InvalidShape : PySem.W.findIn K (.ref a.C_InvalidShape) "__init__" = some (some (.ref a.f_i_InvalidShape))
  tI_InvalidShape : PySem.W.typeIn K (.ref a.f_i_InvalidShape) = some (.type "function")
  F_i_InvalidShape : Fun K "__init__" "InvalidShape.__init__" s_i_InvalidShape a.f_i_InvalidShape a.fd_i_InvalidShape
  b_i_InvalidShape : Binds K a.fd_i_InvalidShape ["self", "pos"] []
  iC_ZeroDenominator : PySem.W.findIn K (.ref a.C_ZeroDenominator) "__init__" = some (some (.ref a.f_i_ZeroDenominator))
  tI_ZeroDenominator : PySem.W.typeIn K (.ref a.f_i_ZeroDenominator) = some (.type "function")
  F_i_ZeroDenominator : Fun K "__init__" "ZeroDenominator.__init__" s_i_ZeroDenominator a.f_i_ZeroDenominator a.fd_i_ZeroDenominator
  b_i_ZeroDenominator : Binds K a.fd_i_ZeroDenominator ["self"] []
  g_p_greatest_divisor : mg "greatest_divisor" = some (.ref a.f_p_greatest_divisor)
  F_p_greatest_divisor : Fun K "greatest_divisor" "greatest_divisor" s_p_greatest_divisor a.f_p_greatest_divisor a.fd_p_greatest_divisor
  b_p_greatest_divisor : Binds K a.fd_p_greatest_divisor ["one", "other"] []
  g_p_least_multiple : mg "least_multiple" = some (.ref a.f_p_least_multiple)
  F_p_least_multiple : Fun K "least_multiple" "least_multiple" s_p_least_multiple a.f_p_least_multiple a.fd_p_least_multiple
  b_p_least_multiple : Binds K a.fd_p_least_multiple ["one", "other"] []
  g_p_common_denominator : mg "common_denominator" = some (.ref a.f_p_common_denominator)
  F_p_common_denominator : Fun K "common_denominator" "common_denominator" s_p_common_denominator a.f_p_common_denominator a.fd_p_common_denominator
  b_p_common_denominator : Binds K a.fd_p_common_denominator ["row"] []
  g_p_fraction : mg "fraction" = some (.ref a.f_p_fraction)
  F_p_fraction : FunD K "fraction" "fraction" (defArgs s_p_fraction) (defBody s_p_fraction) (defScope s_p_fraction) [(.int 1)] [] a.f_p_fraction a.fd_p_fraction
  b_p_fraction_2 : ∃ ds, Vals [] ds ∧ Binds K a.fd_p_fraction ["num", "den"] ds
  g_p_check_shape : mg "check_shape" = some (.ref a.f_p_check_shape)
  F_p_check_shape : Fun K "check_shape" "check_shape" s_p_check_shape a.f_p_check_shape a.fd_p_check_shape
  b_p_check_shape : Binds K a.fd_p_check_shape ["rows", "targets"] []
  g_p_columns_of : mg "columns_of" = some (.ref a.f_p_columns_of)
  F_p_columns_of : Fun K "columns_of" "columns_of" s_p_columns_of a.f_p_columns_of a.fd_p_columns_of
  b_p_columns_of : Binds K a.fd_p_columns_of ["rows"] []
  g_p_as_integers : mg "as_integers" = some (.ref a.f_p_as_integers)
  F_p_as_integers : Fun K "as_integers" "as_integers" s_p_as_integers a.f_p_as_integers a.fd_p_as_integers
  b_p_as_integers : Binds K a.fd_p_as_integers ["row"] []
  g_p_clear_column : mg "clear_column" = some (.ref a.f_p_clear_column)
  F_p_clear_column : Fun K "clear_column" "clear_column" s_p_clear_column a.f_p_clear_column a.fd_p_clear_column
  b_p_clear_column : Binds K a.fd_p_clear_column ["row", "pivot_row", "column", "last_pivot"] []
  g_p_first_nonzero : mg "first_nonzero" = some (.ref a.f_p_first_nonzero)
  F_p_first_nonzero : Fun K "first_nonzero" "first_nonzero" s_p_first_nonzero a.f_p_first_nonzero a.fd_p_first_nonzero
  b_p_first_nonzero : Binds K a.fd_p_first_nonzero ["row"] []
  g_p_eliminate : mg "eliminate" = some (.ref a.f_p_eliminate)
  F_p_eliminate : Fun K "eliminate" "eliminate" s_p_eliminate a.f_p_eliminate a.fd_p_eliminate
  b_p_eliminate : Binds K a.fd_p_eliminate ["rows", "width"] []
  g_p_solution_of : mg "solution_of" = some (.ref a.f_p_solution_of)
  F_p_solution_of : Fun K "solution_of" "solution_of" s_p_solution_of a.f_p_solution_of a.fd_p_solution_of
  b_p_solution_of : Binds K a.fd_p_solution_of ["rows", "width"] []
  g_p_solve_linear : mg "solve_linear" = some (.ref a.f_p_solve_linear)
  F_p_solve_linear : Fun K "solve_linear" "solve_linear" s_p_solve_linear a.f_p_solve_linear a.fd_p_solve_linear
  b_p_solve_linear : Binds K a.fd_p_solve_linear ["rows", "targets"] []
  g_p_cancels : mg "cancels" = some (.ref a.f_p_cancels)
  F_p_cancels : Fun K "cancels" "cancels" s_p_cancels a.f_p_cancels a.fd_p_cancels
  b_p_cancels : Binds K a.fd_p_cancels ["row", "factors"] []
  g_p_is_solution : mg "is_solution" = some (.ref a.f_p_is_solution)
  F_p_is_solution : Fun K "is_solution" "is_solution" s_p_is_solution a.f_p_is_solution a.fd_p_is_solution
  b_p_is_solution : Binds K a.fd_p_is_solution ["rows", "targets", "values"] []
  g_p_is_certificate : mg "is_certificate" = some (.ref a.f_p_is_certificate)
  F_p_is_certificate : Fun K "is_certificate" "is_certificate" s_p_is_certificate a.f_p_is_certificate a.fd_p_is_certificate
  b_p_is_certificate : Binds K a.fd_p_is_certificate ["rows", "targets", "weights"] []
  g_p_check_solution : mg "check_solution" = some (.ref a.f_p_check_solution)
  F_p_check_solution : Fun K "check_solution" "check_solution" s_p_check_solution a.f_p_check_solution a.fd_p_check_solution
  b_p_check_solution : Binds K a.fd_p_check_solution ["rows", "targets", "answer"] []
  g_l_source : mg "_law_source" = some (.ref a.f_l_source)
  F_l_source : Fun K "_law_source" "_law_source" s_l_source a.f_l_source a.fd_l_source
  b_l_source : Binds K a.fd_l_source ["_law_script"] []
  g_l_draw : mg "_law_draw" = some (.ref a.f_l_draw)
  F_l_draw : Fun K "_law_draw" "_law_draw" s_l_draw a.f_l_draw a.fd_l_draw
  b_l_draw : Binds K a.fd_l_draw ["_law_rng", "_law_quantity"] []
  g_l_choice : mg "_law_choice" = some (.ref a.f_l_choice)
  F_l_choice : Fun K "_law_choice" "_law_choice" s_l_choice a.f_l_choice a.fd_l_choice
  b_l_choice : Binds K a.fd_l_choice ["_law_rng", "_law_some"] []
  g_l_equal : mg "_law_equal" = some (.ref a.f_l_equal)
  F_l_equal : Fun K "_law_equal" "_law_equal" s_l_equal a.f_l_equal a.fd_l_equal
  b_l_equal : Binds K a.fd_l_equal ["_law_result", "_law_expected"] []
  g_l_error_field : mg "_law_error_field" = some (.ref a.f_l_error_field)
  F_l_error_field : Fun K "_law_error_field" "_law_error_field" s_l_error_field a.f_l_error_field a.fd_l_error_field
  b_l_error_field : Binds K a.fd_l_error_field ["_law_e"] []
  g_l_outcome : mg "_law_outcome" = some (.ref a.f_l_outcome)
  F_l_outcome : Fun K "_law_outcome" "_law_outcome" s_l_outcome a.f_l_outcome a.fd_l_outcome
  b_l_outcome : Binds K a.fd_l_outcome ["_law_ask"] []
  g_l_error : mg "_law_error" = some (.ref a.f_l_error)
  F_l_error : Fun K "_law_error" "_law_error" s_l_error a.f_l_error a.fd_l_error
  b_l_error : Binds K a.fd_l_error ["_law_ask"] []
  g_l_reduce : mg "_law_reduce" = some (.ref a.f_l_reduce)
  F_l_reduce : Fun K "_law_reduce" "_law_reduce" s_l_reduce a.f_l_reduce a.fd_l_reduce
  b_l_reduce : Binds K a.fd_l_reduce ["_law_num", "_law_den"] []
  g_l_add : mg "_law_add" = some (.ref a.f_l_add)
  F_l_add : Fun K "_law_add" "_law_add" s_l_add a.f_l_add a.fd_l_add
  b_l_add : Binds K a.fd_l_add ["_law_one", "_law_other"] []
  g_l_multiply : mg "_law_multiply" = some (.ref a.f_l_multiply)
  F_l_multiply : Fun K "_law_multiply" "_law_multiply" s_l_multiply a.f_l_multiply a.fd_l_multiply
  b_l_multiply : Binds K a.fd_l_multiply ["_law_one", "_law_other"] []
  g_l_sum : mg "_law_sum" = some (.ref a.f_l_sum)
  F_l_sum : Fun K "_law_sum" "_law_sum" s_l_sum a.f_l_sum a.fd_l_sum
  b_l_sum : Binds K a.fd_l_sum ["_law_some"] []
  g_l_small : mg "_law_small" = some (.ref a.f_l_small)
  F_l_small : Fun K "_law_small" "_law_small" s_l_small a.f_l_small a.fd_l_small
  b_l_small : Binds K a.fd_l_small ["_law_rng"] []
  g_l_linear_case : mg "_law_linear_case" = some (.ref a.f_l_linear_case)
  F_l_linear_case : Fun K "_law_linear_case" "_law_linear_case" s_l_linear_case a.f_l_linear_case a.fd_l_linear_case
  b_l_linear_case : Binds K a.fd_l_linear_case ["_law_rng"] []
  g_p_law : mg "law" = some (.ref a.f_p_law)
  F_p_law : LmN.FunC K "law" "law" s_p_law a.f_p_law a.fd_p_law a.cL
  rd_GaitError : PySem.W.readsIn K a.C_GaitError (.type "type") = true
  sg_GaitError : PySem.W.specialIn K (.ref a.C_GaitError) "__getattribute__" = some (some (.builtin "type.__getattribute__"))
  fc_GaitError : PySem.W.findCls K (.ref a.C_GaitError) (.type "type") "__init__" = some (.val (.ref a.f_i_GaitError))
  gC_GaitError : mg "GaitError" = some (.ref a.C_GaitError)
  gC_NotFound : mg "NotFound" = some (.ref a.C_NotFound)
  gC_ZeroDenominator : mg "ZeroDenominator" = some (.ref a.C_ZeroDenominator)
  gC_EmptyHistory : mg "EmptyHistory" = some (.ref a.C_EmptyHistory)
  gC_InvalidShape : mg "InvalidShape" = some (.ref a.C_InvalidShape)
  oC_ZeroDenominator : ExB.Own K a.C_ZeroDenominator "ZeroDivisionError" "ZeroDivisionError.__new__" "ZeroDivisionError.__init__" [.type "ZeroDivisionError", .type "ArithmeticError", .type "Exception", .type "BaseException", .type "object"]
  xC_ZeroDenominator : XfC K a.C_ZeroDenominator
  no_ZeroDenominator_tag : PySem.W.findIn K (.ref a.C_ZeroDenominator) "tag" = some none
  em_ZeroDenominator_GaitError : PySem.W.exmAny K (.ref a.C_ZeroDenominator) [.ref a.C_GaitError, .ref a.C_NotFound] = some false
  em_ZeroDenominator_ZeroDenominator : PySem.W.exmAny K (.ref a.C_ZeroDenominator) [.ref a.C_ZeroDenominator, .ref a.C_EmptyHistory] = some true
  oC_InvalidShape : ExB.Own K a.C_InvalidShape "ValueError" "ValueError.__new__" "ValueError.__init__" [.type "ValueError", .type "Exception", .type "BaseException", .type "object"]
  xC_InvalidShape : XfC K a.C_InvalidShape
  no_InvalidShape_tag : PySem.W.findIn K (.ref a.C_InvalidShape) "tag" = some none
  no_InvalidShape_pos : PySem.W.findIn K (.ref a.C_InvalidShape) "pos" = some none
  em_InvalidShape_GaitError : PySem.W.exmAny K (.ref a.C_InvalidShape) [.ref a.C_GaitError, .ref a.C_NotFound] = some true
  em_InvalidShape_ZeroDenominator : PySem.W.exmAny K (.ref a.C_InvalidShape) [.ref a.C_ZeroDenominator, .ref a.C_EmptyHistory] = some false
  vV_ValueError : PySem.W.findCls K (.type "ValueError") (.type "type") "__init__" = some (.val (.builtin "ValueError.__init__"))
  vV_ZeroDivisionError : PySem.W.findCls K (.type "ZeroDivisionError") (.type "type") "__init__" = some (.val (.builtin "ZeroDivisionError.__init__"))
  n_ValueError : mg "ValueError" = none
  n_ZeroDivisionError : mg "ZeroDivisionError" = none
  n_abs : mg "abs" = none
  n_enumerate : mg "enumerate" = none
  n_len : mg "len" = none
  n_list : mg "list" = none
  n_zip : mg "zip" = none
  n_range : mg "range" = none
  n_any : mg "any" = none
  n_sum : mg "sum" = none
  n_all : mg "all" = none
  n_isinstance : mg "isinstance" = none
  n_tuple : mg "tuple" = none
  n_bool : mg "bool" = none
  n_int : mg "int" = none
  n_str : mg "str" = none
  c_ZERO : mg "ZERO" = some (.ref a.o_ZERO)
  t_ZERO : ∀ H, SqT K H a.o_ZERO [(.int 0), (.int 1)]
/-- which field an error of the tag has -/
def efTab : List (Str × Str) := [("InvalidTerm", "name"), ("InvalidName", "name"), ("TermTooLarge", "name"), ("DuplicateName", "name"), ("SystemInUse", "name"), ("UnknownEvent", "name"), ("UnknownSystem", "name"), ("UnknownRun", "name"), ("InvalidRound", "number"), ("InvalidLimit", "number"), ("InvalidShape", "pos"), ("ParseError", "pos"), ("InvalidCount", "quantity"), ("CapacityExceeded", "capacity"), ("InvalidCommand", "first")]
/-- errors without a field -/
def nfTab : List Str := ["NameMismatch", "InvalidTimes"]
/-- what the law finds as the field -/
def FldOf (K : PySem.W.Frag) (C : Addr) (fs : List (Str × V)) (tag : Str) (v : V) : Prop := (∃ fld, (tag, fld) ∈ efTab ∧ fs.lookup fld = some v ∧ PySem.W.findIn K (.ref C) fld = some none) ∨ (tag ∈ nfTab ∧ v = .non)
/-- what the law makes of a lambda: the answer, the tag, the field -/
def TTo (K : PySem.W.Frag) (a : Ad) : (XK → Hp → VK → Prop) → Hp → VK → Prop := fun tl H Q => ∀ H0, Same H H0 →
  tl (fun cls d H' => ∃ (C dd : Addr) (fs : List (Str × V)) (tag : Str), cls = .ref C ∧ d = some dd ∧ H' dd = some (.xd fs) ∧ fs.lookup ("tag" : Str) = some (.str tag) ∧ XfC K C ∧ PySem.W.findIn K (.ref C) "tag" = some none ∧
      (((PySem.W.exmAny K (.ref C) [.ref a.C_GaitError, .ref a.C_NotFound] = some false ∧ PySem.W.exmAny K (.ref C) [.ref a.C_ZeroDenominator, .ref a.C_EmptyHistory] = some true ∧ ∀ p H2, Same H' H2 → H' p = none → H2 p = some (.tup [.non, .str tag, .non]) → Q (.ref p) H2) ∨
        (PySem.W.exmAny K (.ref C) [.ref a.C_GaitError, .ref a.C_NotFound] = some true ∧ tag ∈ nfTab ∧ ∀ p H2, Same H' H2 → H' p = none → H2 p = some (.tup [.non, .str tag, .non]) → Q (.ref p) H2)) ∨
        (PySem.W.exmAny K (.ref C) [.ref a.C_GaitError, .ref a.C_NotFound] = some true ∧ ∃ (fld : Str) (v : V), (tag, fld) ∈ efTab ∧ fs.lookup fld = some v ∧ PySem.W.findIn K (.ref C) fld = some none ∧ ∀ p H2, Same H' H2 → H' p = none → H2 p = some (.tup [.non, .str tag, v]) → Q (.ref p) H2)))
    H0 (fun v H1 => ∀ p, H1 p = none → Q (.ref p) (upd H1 p (.tup [v, .str "", .non])))
def qL : Str := (envOfC "law" (defScope s_p_law) 0 0 .none).qual ++ "<lambda>"
def tabs (a : Ad) : List (Addr × Str) := [(a.tL, qL)]
theorem tabs_in {a : Ad} : (a.tL, qL) ∈ tabs a := List.mem_cons_self
theorem tabs_uq {a : Ad} : ∀ p ∈ tabs a, p.1 = a.tL → p.2 = qL := fun p hp _ => by rw [List.mem_singleton.mp hp]

section
variable {P : Program} {w : World} {K : PySem.W.Frag} {mg : Str → Option Value} {base : Heap} {a : Ad}
def sp_i_GaitError (K : PySem.W.Frag) : Sp := fun vs H Q _ => ∃ (x C : Addr) (n : String) (b : List Value) (tag msg : Str), vs = [.ref x, .str tag, .str msg] ∧ ExB.Own K C "ValueError" n "ValueError.__init__" b ∧ PySem.W.takerIn K C "tag" = some none ∧ H x = some (exo x C none) ∧ ∀ d, H d = none → d ≠ x → Q .non (upd (upd H d (exd d [("tag", .str tag)])) x (exo x C (some d)))

theorem ok_i_GaitError (T : Txt K mg a) : FnOk P w K mg base CX0 1 a.f_i_GaitError a.fd_i_GaitError ["self", "tag", "message"] (sp_i_GaitError K) := by
  refine FunD.ok0 T.F_i_GaitError sc_i_GaitError (fun vs H Q E h => ?_) (fun cdv A outer s H vs Q E hr h => ?_)
  · obtain ⟨x, C, n, b, tag, msg, rfl, _⟩ := h
    rfl
  · obtain ⟨x, C, n, b, tag, msg, rfl, O, tk, hx, w⟩ := h
    refine ⟨_, (pss_cons (ps_expr (ExB.pe_binit (B := "ValueError") (initId := "ValueError.__init__") (by rfl) T.n_ValueError (by decide +kernel) (by decide) (by decide) (by kernel_rfl) (by decide +kernel) T.vV_ValueError (by decide +kernel) (pa_cons (pv 0) (pa_cons (pv 2) pa_nil))))
          (pss_one (ExB.ps_st (pv 0) (pv 1)))), ?_⟩
    refine ⟨.ref x, rfl, .str msg, rfl, x, C, _, n, b, rfl, by show 1 ≤ 1000; decide, O, hx, ?_⟩
    exact ⟨.str tag, rfl, .ref x, rfl, x, C, rfl, ⟨_, _, _, _, O⟩, tk, .inl ⟨hx, fun d nd ne => w d nd ne⟩⟩
end
section
variable {P : Program} {w : World} {K : PySem.W.Frag} {mg : Str → Option Value} {base : Heap} {a : Ad}
def sp_i_InvalidShape (K : PySem.W.Frag) : Sp := fun vs H Q _ => ∃ (x C : Addr) (n : String) (b : List Value) (i : Int), vs = [.ref x, .int i] ∧ i.natAbs < 2 ^ 60 ∧ ExB.Own K C "ValueError" n "ValueError.__init__" b ∧ PySem.W.takerIn K C "tag" = some none ∧ PySem.W.takerIn K C "pos" = some none ∧ H x = some (exo x C none) ∧ ∀ d H', H d = none → d ≠ x → (∀ b o, b ≠ x → H b = some o → H' b = some o) → H' d = some (exd d [("pos", .int i), ("tag", .str "InvalidShape")]) → H' x = some (exo x C (some d)) → Q .non H'
/-- an error of the class C with one field is wanted -/
abbrev Rz1 (C : Addr) (tag fld : Str) (v : V) (E : XK) (H : Hp) : Prop := ∀ dd H', Same H H' → H dd = none → H' dd = some (.xd [(fld, v), ("tag", .str tag)]) → E (.ref C) (some dd) H'
theorem Rz1.same {C : Addr} {tag fld : Str} {v : V} {E : XK} {H H1 : Hp} (s : Same H H1) (h : Rz1 C tag fld v E H) : Rz1 C tag fld v E H1 := fun dd H' s' n e => h dd H' (s.trans s') (s.free n) e
theorem raise_InvalidShape (T : Txt K mg a) {E : XK} {H H2 : Hp} {σ : L2.St} {te : TE} {i : Int} (hz : i.natAbs < 2 ^ 60) (ht : ∀ Q0 : VK, Q0 (.int i) H2 → te σ H2 Q0) (s2 : Same H H2) (h : Rz1 a.C_InvalidShape "InvalidShape" "pos" (.int i) E H) : ExB.tMk a.C_InvalidShape (sp_i_InvalidShape K) [] (tCons te tNil) σ H2 fun cls d H' => E cls d H' := by
  refine ht _ ?_
  refine ⟨by show 1 ≤ 1000; decide, fun x nx => ?_⟩
  refine ⟨x, a.C_InvalidShape, _, _, i, rfl, hz, T.oC_InvalidShape, taker_of T.no_InvalidShape_tag, taker_of T.no_InvalidShape_pos, upd_same, fun d2 H' nd ne kp hd' hx' => ⟨rfl, d2, [("pos", .int i), ("tag", .str "InvalidShape")], hx', hd', ?_, ?_⟩⟩
  · rw [upd_ne ne] at nd; exact nd
  · rw [upd_ne ne] at nd
    refine h d2 _ (s2.trans fun c o e => ?_) (s2.free nd) upd_same
    have c1 := ne_of_none e nx
    have c2 := ne_of_none e nd
    rw [upd_ne c2, del_ne c1]
    exact kp c o c1 (by rw [upd_ne c1]; exact e)

theorem ok_i_InvalidShape (T : Txt K mg a) : FnOk P w K mg base CX0 2 a.f_i_InvalidShape a.fd_i_InvalidShape ["self", "pos"] (sp_i_InvalidShape K) := by
  have G_i_GaitError := ok_i_GaitError (P := P) (w := w) (base := base) T
  obtain ⟨_, v_i_GaitError_3, b_i_GaitError_3⟩ := T.b_i_GaitError_3
  refine T.F_i_InvalidShape.ok sc_i_InvalidShape (fun vs H Q E h => ?_) (fun cdv A outer s H vs Q E hr h => ?_)
  · obtain ⟨x, C, n, b, i, rfl, _⟩ := h
    rfl
  · obtain ⟨x, C, n, b, i, rfl, hi, O, tk, tk2, hx, w⟩ := h
    refine ⟨_, (pss_cons (ps_expr (ExB.pe_cinit G_i_GaitError (hr.mono (by first | decide | omega)) (by rfl) T.gC_GaitError T.rd_GaitError T.sg_GaitError T.fc_GaitError T.F_i_GaitError.kp b_i_GaitError_3 v_i_GaitError_3 pass0 (pa_cons (pv 0) (pa_cons pe_str (pa_cons (pe_joined (.cons pe_str (.cons (pe_fmt (pv 1)) .nil))) pa_nil)))))
          (pss_one (ExB.ps_st (pv 0) (pv 1)))), ?_⟩
    have lg : i.natAbs.log2 < 1920 := Nat.lt_of_lt_of_le (PySem.Flt.log2_lt_of (by decide) hi) (by decide)
    have tl : (Str.ofString (toString i)).length ≤ 1921 := by rw [PySem.ofString_length]; exact PySem.int_text_length_le (by decide) lg
    have lp : ("the equations have unequal lengths at " : Str).length = 38 := by decide +kernel
    have la := Str.length_append
    have l0 : (Str.empty).length = 0 := by decide +kernel
    refine ⟨.ref x, rfl, "the equations have unequal lengths at ", rfl, by size_fits, .int i, rfl, .inr ⟨i, rfl, lg, _, rfl, sz (by rw [la, la]; omega), ?_⟩⟩
    refine ⟨x, C, n, b, "InvalidShape", _, rfl, O, tk, hx, fun d nd ne => ?_⟩
    refine ⟨.int i, rfl, .ref x, rfl, x, C, rfl, ⟨_, _, _, _, O⟩, tk2, .inr ⟨d, _, upd_same, by rw [upd_ne ne]; exact upd_same, by show 1 ≤ 900; decide, ?_⟩⟩
    refine w d _ nd ne (fun b o hb e => ?_) upd_same ?_
    · rw [upd_ne (ne_of_none e nd), upd_ne hb, upd_ne (ne_of_none e nd)]; exact e
    · rw [upd_ne ne.symm]; exact upd_same
end
section
variable {P : Program} {w : World} {K : PySem.W.Frag} {mg : Str → Option Value} {base : Heap} {a : Ad}
def sp_i_ZeroDenominator (K : PySem.W.Frag) : Sp := fun vs H Q _ => ∃ (x C : Addr) (n : String) (b : List Value), vs = [.ref x] ∧ ExB.Own K C "ZeroDivisionError" n "ZeroDivisionError.__init__" b ∧ PySem.W.takerIn K C "tag" = some none ∧ H x = some (exo x C none) ∧ ∀ d, H d = none → d ≠ x → Q .non (upd (upd H d (exd d [("tag", .str "ZeroDenominator")])) x (exo x C (some d)))

theorem ok_i_ZeroDenominator (T : Txt K mg a) : FnOk P w K mg base CX0 1 a.f_i_ZeroDenominator a.fd_i_ZeroDenominator ["self"] (sp_i_ZeroDenominator K) := by
  refine T.F_i_ZeroDenominator.ok sc_i_ZeroDenominator (fun vs H Q E h => ?_) (fun cdv A outer s H vs Q E hr h => ?_)
  · obtain ⟨x, C, n, b, rfl, _⟩ := h
    rfl
  · obtain ⟨x, C, n, b, rfl, O, tk, hx, w⟩ := h
    refine ⟨_, (pss_cons (ps_expr (ExB.pe_binit (B := "ZeroDivisionError") (initId := "ZeroDivisionError.__init__") (by rfl) T.n_ZeroDivisionError (by decide +kernel) (by decide) (by decide) (by kernel_rfl) (by decide +kernel) T.vV_ZeroDivisionError (by decide +kernel) (pa_cons (pv 0) (pa_cons pe_str pa_nil))))
          (pss_one (ExB.ps_st (pv 0) pe_str))), ?_⟩
    refine ⟨.ref x, rfl, x, C, _, n, b, rfl, by show 1 ≤ 1000; decide, O, hx, ?_⟩
    exact ⟨.ref x, rfl, x, C, rfl, ⟨_, _, _, _, O⟩, tk, .inl ⟨hx, fun d nd ne => w d nd ne⟩⟩
end
section
variable {P : Program} {w : World} {K : PySem.W.Frag} {mg : Str → Option Value} {base : Heap} {a : Ad}
def sp_p_greatest_divisor (_ : PySem.W.Frag) : Sp := fun vs H Q _ => ∃ (n d : Int), vs = [.int n, .int d] ∧ Q (.int (Int.gcd n d : Int)) H

theorem ok_p_greatest_divisor (T : Txt K mg a) : FnOk P w K mg base CX0 1 a.f_p_greatest_divisor a.fd_p_greatest_divisor ["one", "other"] (sp_p_greatest_divisor K) := by
  refine T.F_p_greatest_divisor.ok sc_p_greatest_divisor (fun vs H Q E h => ?_) (fun cdv A outer s H vs Q E hr h => ?_)
  · obtain ⟨n, d, rfl, _⟩ := h
    rfl
  · obtain ⟨n, d, rfl, w⟩ := h
    refine ⟨_, (pss_cons (ps_while PassesOwn.never (pt_cmpR op_ne (pv 1) pe_int (nomark _)) (pss_one (ps_par (i := 0) (j := 1) (by rfl) sc_p_greatest_divisor.nd rfl rfl (by decide) rfl rfl (pa_cons (pv 1) (pa_cons (pe_op op_modN (pv 0) (pv 1)) pa_nil)) (by rfl))))
          (pss_one (ps_ret (pe_callB call_abs (by rfl) T.n_abs (by decide +kernel) (pa_cons (pv 0) pa_nil))))), ?_⟩
    refine ⟨fun m σ H' => ∃ x y : Int, σ = [some (.int x), some (.int y)] ∧ Int.gcd x y = Int.gcd n d ∧ m = y.natAbs ∧ H' = H, ⟨_, n, d, rfl, rfl, rfl, rfl⟩, ?_⟩
    rintro m σ H' ⟨x, y, rfl, hg, rfl, hH⟩
    obtain rfl : H = H' := hH.symm
    refine ⟨.int y, rfl, rfl, _, rfl, ite2 (fun e => ?_) (fun e => ?_)⟩
    · have y1 : y ≠ 0 := fun z => by subst z; simp at e
      refine ⟨fun σ' H' => σ' = [some (.int y), some (.int (x.fmod y))] ∧ H' = H, ?_, ?_⟩
      · rintro σ' H' ⟨rfl, rfl⟩
        exact ⟨(x.fmod y).natAbs, fmod_lt y1, y, x.fmod y, rfl, gcd_fmod.trans hg, rfl, rfl⟩
      · exact ⟨.int y, rfl, .int x, rfl, .int y, rfl, x, y, rfl, rfl, y1, _, _, rfl, rfl, rfl⟩
    · have y1 : y = 0 := by
        by_cases z : y = 0
        · exact z
        · exfalso; apply e; simp [z]
      subst y1
      refine ⟨.int x, rfl, x, rfl, ?_⟩
      have hx : (if x < 0 then -x else x) = (Int.gcd n d : Int) := by
        rw [← hg, Int.gcd_zero_right]
        split <;> omega
      rw [hx]
      exact w
end
section
variable {P : Program} {w : World} {K : PySem.W.Frag} {mg : Str → Option Value} {base : Heap} {a : Ad}
def sp_p_fraction (_ : PySem.W.Frag) : Sp := fun vs H Q _ => ∃ (n d : Int), vs = [.int n, .int d] ∧ d ≠ 0 ∧ d.natAbs < 2 ^ 8000 ∧ ∀ p, H p = none → Q (.ref p) (upd H p (.tup [.int (red n d).1, .int (red n d).2]))
def spx_p_fraction (K : PySem.W.Frag) (a : Ad) : Sp := fun vs H Q E => ∃ (n d : Int), vs = [.int n, .int d] ∧ d.natAbs < 2 ^ 8000 ∧ (d ≠ 0 → ∀ p, H p = none → Q (.ref p) (upd H p (.tup [.int (red n d).1, .int (red n d).2]))) ∧
  (d = 0 → ∀ dd H', Same H H' → H dd = none → H' dd = some (.xd [("tag", .str "ZeroDenominator")]) → E (.ref a.C_ZeroDenominator) (some dd) H')

theorem okx_p_fraction (T : Txt K mg a) : FnOk P w K mg base (L2N.CX P w) 3 a.f_p_fraction a.fd_p_fraction ["num", "den"] (spx_p_fraction K a) := by
  have G_p_greatest_divisor := ok_p_greatest_divisor (P := P) (w := w) (base := base) T
  have G_i_ZeroDenominator := ok_i_ZeroDenominator (P := P) (w := w) (base := base) T
  refine FunD.ok (CX := L2N.CX P w) T.F_p_fraction sc_p_fraction (fun vs H Q E h => ?_) (fun cdv A outer s H vs Q E hr h => ?_)
  · obtain ⟨n, d, rfl, _⟩ := h
    rfl
  · obtain ⟨n, d, rfl, dB, w, wx⟩ := h
    refine ⟨_, (pss_cons (ps_if (pt_cmpR op_eq (pv 1) pe_int (nomark _)) (pss_one (L2N.ps_raise rfl (L2N.takes_of rfl rfl rfl rfl) (ExB.pmk0 ⟨_, _, _, _, T.oC_ZeroDenominator⟩ T.iC_ZeroDenominator T.tI_ZeroDenominator G_i_ZeroDenominator (hr.mono (by first | decide | omega)) T.b_i_ZeroDenominator .nil pass0 (by rfl) T.gC_ZeroDenominator))) pss_nil)
          (pss_cons (ps_set (i := 2) sc_p_fraction.nd rfl (by first | exact Or.inl rfl | exact Or.inr rfl) (pe_call G_p_greatest_divisor (hr.mono (by first | decide | omega)) (by rfl) T.g_p_greatest_divisor T.F_p_greatest_divisor.kp T.b_p_greatest_divisor .nil pass0 (pa_cons (pv 0) (pa_cons (pv 1) pa_nil))))
          (C8.pss_cut (ps_if (pt_cmpR op_lt (pv 1) pe_int (nomark _)) (pss_one (ps_set (i := 2) sc_p_fraction.nd rfl (by first | exact Or.inl rfl | exact Or.inr rfl) (pe_un un_neg (pv 2)))) pss_nil)
          (pss_one (ps_ret (pe_tup (pa_cons (pe_op op_fdivA (pv 0) (pv 2)) (pa_cons (pe_op op_fdivA (pv 1) (pv 2)) pa_nil)))))))), ?_⟩
    by_cases hd : d = 0
    · refine ⟨.int d, rfl, rfl, _, rfl, ifT (decide_eq_true (by rw [hd])) ?_⟩
      refine ⟨by show 0 ≤ 1000; decide, fun x nx => ?_⟩
      refine ⟨x, a.C_ZeroDenominator, _, _, rfl, T.oC_ZeroDenominator, taker_of T.no_ZeroDenominator_tag, upd_same, fun d2 nd ne => ⟨rfl, d2, [("tag", .str "ZeroDenominator")], upd_same, ?_, ?_, ?_⟩⟩
      · rw [upd_ne ne, upd_same]
      · rw [upd_ne ne] at nd; exact nd
      · rw [upd_ne ne] at nd
        exact wx hd d2 _ (Same.made (C := a.C_ZeroDenominator) nx nd) nd upd_same
    replace w := w hd
    have g0 := gcd_posI (n := n) hd
    have gB : (Int.gcd n d : Int).natAbs < 2 ^ 8000 := by
      refine Nat.lt_of_le_of_lt ?_ dB
      have h1 : Int.gcd n d ∣ d.natAbs := Nat.gcd_dvd_right _ _
      have h2 := Nat.le_of_dvd (by omega) h1
      omega
    have fr := frac_red (n := n) hd
    refine ⟨.int d, rfl, rfl, _, rfl, ifF (decide_eq_false fun z => hd (V.int.inj z)) ?_⟩
    refine ⟨.int n, rfl, .int d, rfl, n, d, rfl, ?_⟩
    refine ⟨fun σ H' => σ = [some (.int n), some (.int d), some (.int (if d < 0 then -(Int.gcd n d : Int) else (Int.gcd n d : Int)))] ∧ H' = H, ?_, ?_⟩
    · refine ⟨.int d, rfl, d, 0, rfl, rfl, _, rfl, ite2 (fun e => ?_) (fun e => ?_)⟩
      · refine ⟨.int (Int.gcd n d : Int), rfl, _, rfl, ?_, rfl⟩
        rw [if_pos (of_decide_eq_true e)]
        rfl
      · refine ⟨?_, rfl⟩
        rw [if_neg (fun z => e (decide_eq_true z))]
        rfl
    · rintro σ H' ⟨rfl, rfl⟩
      generalize hG : (if d < 0 then -(Int.gcd n d : Int) else (Int.gcd n d : Int)) = g at *
      have g1 : g ≠ 0 := by rw [← hG]; split <;> omega
      have g2 : g.natAbs < 2 ^ 8000 := by rw [← hG]; split <;> omega
      have cd : ∀ i, CDivA i g := fun _ => ⟨g1, log2_lt g2 (by decide) (by decide)⟩
      refine ⟨.int n, rfl, .int g, rfl, n, g, rfl, rfl, cd n, .int d, rfl, .int g, rfl, d, g, rfl, rfl, cd d, sz (by show 2 ≤ 100000; decide), fun p np => ?_⟩
      have z := w p np
      rw [← fr] at z
      exact z
theorem ok_p_fraction (T : Txt K mg a) : FnOk P w K mg base CX0 3 a.f_p_fraction a.fd_p_fraction ["num", "den"] (sp_p_fraction K) := LmN.fn0_of (okx_p_fraction T) (fun vs H Q E h => by
  obtain ⟨n, d, rfl, hd, dB, w⟩ := h
  exact ⟨n, d, rfl, dB, fun _ => w, fun z => absurd z hd⟩)
end
section
variable {P : Program} {w : World} {K : PySem.W.Frag} {mg : Str → Option Value} {base : Heap} {a : Ad}
/-- the first row of another length, or the number of rows where the targets are too many or too few -/
def shErr (ls : List Nat) (m : Nat) : Option Nat :=
  match ls.findIdx? (fun l => !decide (l = ls.getD 0 0)) with
  | some i => some i
  | none => if m = ls.length then none else some ls.length
/-- lists, by their lengths -/
def LensAt (H : Hp) (xs : List V) (ls : List Nat) : Prop := xs.length = ls.length ∧ ∀ (i : Nat) x l, xs[i]? = some x → ls[i]? = some l → ∃ p zs, x = .ref p ∧ H p = some (.lst zs) ∧ zs.length = l
theorem LensAt.same {H H' : Hp} {xs : List V} {ls : List Nat} (h : LensAt H xs ls) (s : Same H H') : LensAt H' xs ls := ⟨h.1, fun i x l a b => by obtain ⟨p, zs, e, hp, q⟩ := h.2 i x l a b; exact ⟨p, zs, e, s _ _ hp, q⟩⟩
theorem LensAt.ext {H H' : Hp} {xs : List V} {ls : List Nat} (h : LensAt H xs ls) (s : LamX.ExtN H H') : LensAt H' xs ls := ⟨h.1, fun i x l a b => by obtain ⟨p, zs, e, hp, q⟩ := h.2 i x l a b; exact ⟨p, zs, e, s _ _ hp (fun ps z => by cases z), q⟩⟩
/-- of a wrong shape -/
def spShapeBad (K : PySem.W.Frag) (a : Ad) (zs : List V) : Sp := fun vs H _ E => ∃ (x y : Addr) (xs ys : List V) (ls : List Nat) (i : Nat), vs = [.ref x, .ref y] ++ zs ∧ H x = some (.lst xs) ∧ H y = some (.lst ys) ∧ LensAt H xs ls ∧ xs.length ≤ 1000 ∧ shErr ls ys.length = some i ∧ Rz1 a.C_InvalidShape "InvalidShape" "pos" (.int (i : Nat)) E H
def spShape (K : PySem.W.Frag) (N : Option Nat → VK → XK → Hp → Prop) : Sp := fun vs H Q E => ∃ (x y : Addr) (xs ys : List V) (ls : List Nat), vs = [.ref x, .ref y] ∧ H x = some (.lst xs) ∧ H y = some (.lst ys) ∧ LensAt H xs ls ∧ xs.length ≤ 1000 ∧ N (shErr ls ys.length) Q E H
def sp_p_check_shape (K : PySem.W.Frag) : Sp := spShape K fun e Q _ H => e = none ∧ ∀ H', Same H H' → Q .non H'
def spx_p_check_shape (K : PySem.W.Frag) (a : Ad) : Sp := spShape K fun e Q E H => (e = none → ∀ H', Same H H' → Q .non H') ∧ ∀ i : Nat, e = some i → Rz1 a.C_InvalidShape "InvalidShape" "pos" (.int (i : Nat)) E H
theorem drop_find {ls : List Nat} {p : Nat → Bool} : ∀ {i : Nat}, (∀ (j : Nat) l, j < i → ls[j]? = some l → p l = false) → ∀ l, ls[i]? = some l → p l = true → ls.findIdx? p = some i := fun {i} h l hl hp => by
  rw [List.findIdx?_eq_some_iff_getElem]
  have il := (List.getElem?_eq_some_iff.mp hl).1
  refine ⟨il, ?_, fun j hj => ?_⟩
  · rw [List.getElem?_eq_getElem il] at hl
    rw [Option.some.inj hl]; exact hp
  · have := h j _ hj (List.getElem?_eq_getElem (by omega))
    rw [this]; decide

theorem okx_p_check_shape (T : Txt K mg a) : FnOk P w K mg base (L2N.CX P w) 4 a.f_p_check_shape a.fd_p_check_shape ["rows", "targets"] (spx_p_check_shape K a) := by
  have G_i_InvalidShape := ok_i_InvalidShape (P := P) (w := w) (base := base) T
  have G_i_InvalidShape := ok_i_InvalidShape (P := P) (w := w) (base := base) T
  refine LmN.okN T.F_p_check_shape sc_p_check_shape (fun vs H Q E h => ?_) (fun cdv A outer s H vs Q E hr h => ?_)
  · obtain ⟨x, y, xs, ys, ls, rfl, _⟩ := h
    rfl
  · obtain ⟨x, y, xs, ys, ls, rfl, hx, hy, hL, xl, w, we⟩ := h
    refine ⟨_, (pss_cons (ps_for (passes_of rfl) rfl (pi_enum (by rfl) T.n_enumerate (pa_cons (pv 0) pa_nil)) (pg_tup rfl (pgs_cons (pg_name (i := 2) sc_p_check_shape.nd rfl (by first | exact Or.inl rfl | exact Or.inr rfl)) (pgs_cons (pg_name (i := 3) sc_p_check_shape.nd rfl (by first | exact Or.inl rfl | exact Or.inr rfl)) pgs_nil))) (pss_one (ps_if (pt_cmpR op_ne (pe_callB call_len (by rfl) T.n_len (by decide +kernel) (pa_cons (pv 3) pa_nil)) (pe_callB call_len (by rfl) T.n_len (by decide +kernel) (pa_cons (pe_ix ix_list (pv 0) pe_int (fun _ _ => rfl)) pa_nil)) (nomark _)) (pss_one (L2N.ps_raise rfl (L2N.takes_of rfl rfl rfl rfl) (ExB.pmk1 ⟨_, _, _, _, T.oC_InvalidShape⟩ T.iC_InvalidShape T.tI_InvalidShape G_i_InvalidShape (hr.mono (by first | decide | omega)) T.b_i_InvalidShape .nil pass0 (by rfl) T.gC_InvalidShape (pa_cons (pv 2) pa_nil)))) pss_nil)))
          (pss_one (ps_if (pt_cmpR op_ne (pe_callB call_len (by rfl) T.n_len (by decide +kernel) (pa_cons (pv 1) pa_nil)) (pe_callB call_len (by rfl) T.n_len (by decide +kernel) (pa_cons (pv 0) pa_nil)) (nomark _)) (pss_one (L2N.ps_raise rfl (L2N.takes_of rfl rfl rfl rfl) (ExB.pmk1 ⟨_, _, _, _, T.oC_InvalidShape⟩ T.iC_InvalidShape T.tI_InvalidShape G_i_InvalidShape (hr.mono (by first | decide | omega)) T.b_i_InvalidShape .nil pass0 (by rfl) T.gC_InvalidShape (pa_cons (pe_callB call_len (by rfl) T.n_len (by decide +kernel) (pa_cons (pv 0) pa_nil)) pa_nil)))) pss_nil))), ?_⟩
    have ll : xs.length = ls.length := hL.1
    have g0 : ∀ l, ls[0]? = some l → ls.getD 0 0 = l := fun l e => by rw [List.getD_eq_getElem?_getD, e]; rfl
    refine ⟨.ref x, rfl, x, xs, rfl, SqL.of hx, ?_⟩
    refine ⟨fun i m σ H1 => ∃ (y2 y3 : Option V), i + m = xs.length ∧ σ = [some (.ref x), some (.ref y), y2, y3] ∧ Same H H1 ∧ ∀ (j : Nat) l, j < i → ls[j]? = some l → l = ls.getD 0 0, ⟨xs.length, none, none, by omega, rfl, Same.refl H, fun j l z => absurd z (Nat.not_lt_zero _)⟩, fun i m σ H1 hW => ?_⟩
    obtain ⟨y2, y3, em, rfl, s1, hb⟩ := hW
    by_cases hi : i < xs.length
    · refine .inr ⟨⟨xs, xs[i], s1.seq (SqL.of hx), List.getElem?_eq_getElem hi⟩, fun σ' H' => ∃ (y2 y3 : Option V), σ' = [some (.ref x), some (.ref y), y2, y3] ∧ Same H H' ∧ ∀ (j : Nat) l, j < i + 1 → ls[j]? = some l → l = ls.getD 0 0, fun σ' H' hN => ?_, fun v H2 hy => ?_⟩
      · obtain ⟨y2, y3, e1, e2, e3⟩ := hN
        exact ⟨m - 1, by omega, y2, y3, by omega, e1, e2, e3⟩
      · obtain ⟨tt, u, rfl, nT, rfl, fu⟩ := hy
        have hu := fu xs (s1.seq (SqL.of hx))
        have s2 := s1.trans (Same.new (o := .tup [.int (i : Nat), u]) nT)
        have hli : ls[i]? = some (ls[i]'(by omega)) := List.getElem?_eq_getElem _
        have hl0 : ls[0]? = some (ls[0]'(by omega)) := List.getElem?_eq_getElem _
        have hx0 : xs[0]? = some (xs[0]'(by omega)) := List.getElem?_eq_getElem _
        obtain ⟨p, zs, rfl, hp, zl⟩ := (hL.same s2).2 i u _ hu hli
        obtain ⟨p0, zs0, e0, hp0, zl0⟩ := (hL.same s2).2 0 _ _ hx0 hl0
        refine ⟨tt, [.int (i : Nat), .ref p], rfl, SqT.of upd_same, rfl, .int (i : Nat), [.ref p], rfl, .ref p, [], rfl, rfl, ?_⟩
        refine ⟨.ref p, rfl, .ref p, zs.length, rfl, .inl ⟨_, SqL.of hp, rfl⟩, .ref x, rfl, x, xs, 0, .ref p0, rfl, rfl, SqL.of (s2 _ _ hx), atI_nat (j := 0) (by rw [hx0, e0]), .ref p0, zs0.length, rfl, .inl ⟨_, SqL.of hp0, rfl⟩, rfl, _, rfl, ?_⟩
        rw [zl, zl0]
        by_cases e : ls[i]'(by omega) = ls[0]'(by omega)
        · refine ifF (by rw [e]; simp) ⟨_, _, rfl, s2, fun j l jl hj => ?_⟩
          by_cases h : j = i
          · subst h
            rw [hli] at hj
            cases hj
            rw [g0 _ hl0, e]
          · exact hb j l (by omega) hj
        · refine ifT (by simp only [Bool.not_eq_true', decide_eq_false_iff_not]; exact fun z => e (by have := V.int.inj z; omega)) ?_
          have hf : ls.findIdx? (fun l => !decide (l = ls.getD 0 0)) = some i := drop_find (fun j l jl hj => by rw [hb j l jl hj]; simp) _ hli (by rw [g0 _ hl0, decide_eq_false e]; rfl)
          refine raise_InvalidShape T (i := (i : Nat)) (by omega) (fun _ h => ⟨_, rfl, h⟩) s2 (we i ?_)
          unfold shErr
          rw [hf]
    · have ei : i = xs.length := by omega
      subst ei
      refine .inl ⟨⟨xs, s1.seq (SqL.of hx), Nat.le_refl _⟩, ?_⟩
      have hf : ls.findIdx? (fun l => !decide (l = ls.getD 0 0)) = none := by
        rw [List.findIdx?_eq_none_iff]
        intro l hl
        obtain ⟨j, hj, e⟩ := List.getElem_of_mem hl
        have hj' : ls[j]? = some l := by rw [List.getElem?_eq_getElem hj, e]
        rw [hb j l (by omega) hj']
        simp
      have se : shErr ls ys.length = if ys.length = ls.length then none else some ls.length := by
        unfold shErr
        rw [hf]
      rw [se] at w we
      refine ⟨.ref y, rfl, .ref y, ys.length, rfl, .inl ⟨_, SqL.of (s1 _ _ hy), rfl⟩, .ref x, rfl, .ref x, xs.length, rfl, .inl ⟨_, SqL.of (s1 _ _ hx), rfl⟩, rfl, _, rfl, ?_⟩
      by_cases e : ys.length = ls.length
      · rw [if_pos e] at w
        exact ifF (by rw [e, ← ll]; simp) (w rfl H1 s1)
      · rw [if_neg e] at we
        refine ifT (by simp only [Bool.not_eq_true', decide_eq_false_iff_not]; exact fun z => e (by have := V.int.inj z; omega)) ?_
        exact raise_InvalidShape T (i := (xs.length : Nat)) (by omega) (fun _ h => ⟨.ref x, rfl, .ref x, xs.length, rfl, .inl ⟨_, SqL.of (s1 _ _ hx), rfl⟩, h⟩) s1 (by rw [ll]; exact we _ rfl)
theorem ok_p_check_shape (T : Txt K mg a) : FnOk P w K mg base CX0 4 a.f_p_check_shape a.fd_p_check_shape ["rows", "targets"] (sp_p_check_shape K) := LmN.fn0_of (okx_p_check_shape T) (fun vs H Q E h => by
  obtain ⟨x, y, xs, ys, ls, rfl, h1, h2, h3, h4, e, w⟩ := h
  exact ⟨x, y, xs, ys, ls, rfl, h1, h2, h3, h4, fun _ => w, (fun i z => by rw [e] at z; cases z)⟩)
end
section
variable {P : Program} {w : World} {K : PySem.W.Frag} {mg : Str → Option Value} {base : Heap} {a : Ad}
def sp_p_solve_linear (K : PySem.W.Frag) : Sp := fun _ _ _ _ => False
def spx_p_solve_linear (K : PySem.W.Frag) (a : Ad) : Sp := spShapeBad K a []

theorem okx_p_solve_linear (T : Txt K mg a) : FnOk P w K mg base (L2N.CX P w) 5 a.f_p_solve_linear a.fd_p_solve_linear ["rows", "targets"] (spx_p_solve_linear K a) := by
  have G_p_check_shape := ok_p_check_shape (P := P) (w := w) (base := base) T
  have Gx_p_check_shape := okx_p_check_shape (P := P) (w := w) (base := base) T
  refine LmN.okN T.F_p_solve_linear sc_p_solve_linear (fun vs H Q E h => ?_) (fun cdv A outer s H vs Q E hr h => ?_)
  · obtain ⟨x, y, xs, ys, ls, i, rfl, _⟩ := h
    rfl
  · obtain ⟨x, y, xs, ys, ls, i, rfl, hx, hy, hL, xl, e, we⟩ := h
    refine ⟨_, (pss_cons (ps_expr (pe_call Gx_p_check_shape (hr.mono (by first | decide | omega)) (by rfl) T.g_p_check_shape T.F_p_check_shape.kp T.b_p_check_shape .nil (L2N.passes_call (L2N.takes_of rfl rfl rfl rfl) (fun _ _ _ _ h => h)) (pa_cons (pv 0) (pa_cons (pv 1) pa_nil))))
          pss_absurd), ?_⟩
    exact ⟨.ref x, rfl, .ref y, rfl, x, y, xs, ys, ls, rfl, hx, hy, hL, xl, ⟨(fun z => by rw [e] at z; cases z), (fun j z => by rw [e] at z; cases z; exact we)⟩⟩
theorem ok_p_solve_linear (T : Txt K mg a) : FnOk P w K mg base CX0 5 a.f_p_solve_linear a.fd_p_solve_linear ["rows", "targets"] (sp_p_solve_linear K) := LmN.fn0_of (okx_p_solve_linear T) (fun vs H Q E h => h.elim)
end
section
variable {P : Program} {w : World} {K : PySem.W.Frag} {mg : Str → Option Value} {base : Heap} {a : Ad}
def sp_p_check_solution (K : PySem.W.Frag) : Sp := fun _ _ _ _ => False
def spx_p_check_solution (K : PySem.W.Frag) (a : Ad) : Sp := fun vs H Q E => ∃ z, spShapeBad K a [z] vs H Q E

theorem okx_p_check_solution (T : Txt K mg a) : FnOk P w K mg base (L2N.CX P w) 7 a.f_p_check_solution a.fd_p_check_solution ["rows", "targets", "answer"] (spx_p_check_solution K a) := by
  have G_p_check_shape := ok_p_check_shape (P := P) (w := w) (base := base) T
  have Gx_p_check_shape := okx_p_check_shape (P := P) (w := w) (base := base) T
  refine LmN.okN T.F_p_check_solution sc_p_check_solution (fun vs H Q E h => ?_) (fun cdv A outer s H vs Q E hr h => ?_)
  · obtain ⟨z, x, y, xs, ys, ls, i, rfl, _⟩ := h
    rfl
  · obtain ⟨z, x, y, xs, ys, ls, i, rfl, hx, hy, hL, xl, e, we⟩ := h
    refine ⟨_, (pss_cons (ps_expr (pe_call Gx_p_check_shape (hr.mono (by first | decide | omega)) (by rfl) T.g_p_check_shape T.F_p_check_shape.kp T.b_p_check_shape .nil (L2N.passes_call (L2N.takes_of rfl rfl rfl rfl) (fun _ _ _ _ h => h)) (pa_cons (pv 0) (pa_cons (pv 1) pa_nil))))
          pss_absurd), ?_⟩
    exact ⟨.ref x, rfl, .ref y, rfl, x, y, xs, ys, ls, rfl, hx, hy, hL, xl, ⟨(fun z => by rw [e] at z; cases z), (fun j z => by rw [e] at z; cases z; exact we)⟩⟩
theorem ok_p_check_solution (T : Txt K mg a) : FnOk P w K mg base CX0 7 a.f_p_check_solution a.fd_p_check_solution ["rows", "targets", "answer"] (sp_p_check_solution K) := LmN.fn0_of (okx_p_check_solution T) (fun vs H Q E h => h.elim)
end
section
variable {P : Program} {w : World} {K : PySem.W.Frag} {mg : Str → Option Value} {base : Heap} {a : Ad}
def sp_l_source (K : PySem.W.Frag) : Sp := fun vs H Q _ => ∃ (b : Addr) (ns : List Int), vs = [.ref b] ∧ SqL K H b (ns.map V.int) ∧ ns.length ≤ 63 ∧ ∀ H' r, Same H H' → H r = none → Rg H' r → Q (.ref r) H'
theorem cut63 {xs : List V} (h : xs.length ≤ 63) : cutV xs none (some 63) = xs := by
  unfold cutV
  rw [HT.sIx_none, show HT.sIx xs.length xs.length (some 63) = min 63 xs.length from HT.sIx_nat xs.length xs.length 63]
  rw [List.drop_zero, show min 63 xs.length - 0 = xs.length by omega, List.take_length]

theorem ok_l_source (T : Txt K mg a) : FnOk P w K mg base CX0 1 a.f_l_source a.fd_l_source ["_law_script"] (sp_l_source K) := by
  refine T.F_l_source.ok sc_l_source (fun vs H Q E h => ?_) (fun cdv A outer s H vs Q E hr h => ?_)
  · obtain ⟨b, ns, rfl, _⟩ := h
    rfl
  · obtain ⟨b, ns, rfl, hS, hlen, w⟩ := h
    refine ⟨_, (pss_cons (ps_set (i := 1) sc_l_source.nd rfl (by first | exact Or.inl rfl | exact Or.inr rfl) (pe_op op_add pe_int (pe_op op_mul pe_int (pe_callB call_len (by rfl) T.n_len (by decide +kernel) (pa_cons (pe_slice sl_list (pv 0) po_none (po_some pe_int)) pa_nil)))))
          (pss_cons (ps_for PassesOwn.never rfl (pi_list (pe_slice sl_list (pv 0) po_none (po_some pe_int))) (pg_name (i := 2) sc_l_source.nd rfl (by first | exact Or.inl rfl | exact Or.inr rfl)) (pss_one (ps_set (i := 1) sc_l_source.nd rfl (by first | exact Or.inl rfl | exact Or.inr rfl) (pe_op op_mod (pe_op op_add (pe_op op_add (pe_op op_mul (pv 1) pe_int) (pe_op op_mod (pv 2) pe_int)) pe_int) pe_int))))
          (pss_one (ps_ret (pe_lst (pa_cons (pe_callTy call_list_of (by rfl) T.n_list (by decide +kernel) (pa_cons (pe_slice sl_list (pv 0) po_none (po_some pe_int)) pa_nil)) (pa_cons pe_int (pa_cons pe_int (pa_cons (pv 1) pa_nil))))))))), ?_⟩
    have hl : (ns.map V.int).length ≤ 63 := by rw [List.length_map]; exact hlen
    refine ⟨.ref b, rfl, 63, rfl, b, _, rfl, hS, fun p np => ?_⟩
    rw [cut63 hl]
    have s1 : Same H (upd H p (.lst (ns.map V.int))) := Same.new np
    refine ⟨.ref p, ns.length, rfl, .inl ⟨_, SqL.of upd_same, by simp⟩, 67, _, rfl, rfl, .inl ⟨by decide, by decide⟩, 9472, _, rfl, rfl, ?_⟩
    refine ⟨.ref b, rfl, 63, rfl, b, _, rfl, s1.seq hS, fun p2 np2 => ?_⟩
    rw [cut63 hl]
    have s2 : Same H (upd (upd H p (.lst (ns.map V.int))) p2 (.lst (ns.map V.int))) := s1.trans (Same.new np2)
    refine ⟨p2, rfl, ⟨_, SqL.of upd_same⟩, for_list (K := K) (a := p2) (xs := ns.map V.int) (fun i σ H' => ∃ k y, σ = [some (.ref b), some (.int k), y] ∧ 0 ≤ k ∧ k < 2147483563 ∧ H' = upd (upd H p (.lst (ns.map V.int))) p2 (.lst (ns.map V.int)))
      ⟨_, none, rfl, by omega, by omega, rfl⟩ (fun i σ H' _ ⟨_, _, _, _, _, e⟩ => by rw [e]; exact SqL.of upd_same) ?_ ?_⟩
    · rintro i y σ H' hi ⟨k, y', rfl, k0, k1, rfl⟩
      obtain ⟨z, hz, rfl⟩ : ∃ z, ns[i]? = some z ∧ y = V.int z := by
        rw [List.getElem?_map] at hi
        cases e : ns[i]? with
        | none => rw [e] at hi; cases hi
        | some z => rw [e] at hi; exact ⟨z, rfl, (Option.some.inj hi).symm⟩
      refine ⟨.int k, rfl, k, 40014, rfl, rfl, .inl ⟨by omega, by omega⟩, .int z, rfl, z, 2147483563, rfl, rfl, (show (0 : Int) < 2147483563 by decide), _, _, rfl, rfl, _, _, rfl, rfl, _, 2147483563, rfl, rfl, (show (0 : Int) < 2147483563 by decide), ?_⟩
      exact ⟨_, _, rfl, Int.emod_nonneg _ (by decide), Int.emod_lt_of_pos _ (by decide), rfl⟩
    · rintro σ H' ⟨k, y', rfl, k0, k1, rfl⟩
      refine ⟨.ref b, rfl, 63, rfl, b, _, rfl, s2.seq hS, fun p3 np3 => ?_⟩
      rw [cut63 hl]
      refine ⟨p3, _, rfl, .inl (SqL.of upd_same), fun l nl => ?_⟩
      refine ⟨.int k, rfl, sz (by show 4 ≤ 100000; decide), fun r nr => ?_⟩
      have s3 := s2.trans (Same.new (o := .lst (ns.map V.int)) np3)
      have s4 := s3.trans (Same.new (o := .lst (ns.map V.int)) nl)
      have s5 := s4.trans (Same.new (o := .lst [.ref l, .int 0, .int 0, .int k]) nr)
      refine w _ r s5 (s4.free nr) ⟨l, ns, 0, 0, k, upd_same, ?_, by omega, by omega, by omega, k0, k1⟩
      rw [upd_ne (fun z => by rw [z] at nl; rw [← z, upd_same] at nr; cases nr)]
      exact upd_same
end
section
variable {P : Program} {w : World} {K : PySem.W.Frag} {mg : Str → Option Value} {base : Heap} {a : Ad}
def sp_l_draw (_ : PySem.W.Frag) : Sp := fun vs H Q _ => ∃ (r : Addr) (q : Int), vs = [.ref r, .int q] ∧ Rg H r ∧ 0 < q ∧ q < 2 ^ 64 ∧ ∀ v H', 0 ≤ v → v < q → Kp r H H' → Rg H' r → Q (.int v) H'
theorem cell_at {ns : List Int} {i : Int} (h0 : 0 ≤ i) (h1 : i < (ns.length : Int)) : ∃ z, atI (ns.map V.int) i = some (V.int z) := by
  have e : i = ((i.toNat : Nat) : Int) := by omega
  have l : i.toNat < ns.length := by omega
  refine ⟨ns[i.toNat], ?_⟩
  have h : atI (ns.map V.int) ((i.toNat : Nat) : Int) = some (V.int ns[i.toNat]) := atI_nat (by simp [l])
  rw [← e] at h
  exact h
theorem div_ok {q : Int} (h : 0 < q) (h' : q < 2 ^ 64) (i : Int) : CDivW i q := wide_div (b := 64) h (by omega) (by decide) (by decide)

theorem ok_l_draw (T : Txt K mg a) : FnOk P w K mg base CX0 1 a.f_l_draw a.fd_l_draw ["_law_rng", "_law_quantity"] (sp_l_draw K) := by
  refine T.F_l_draw.ok sc_l_draw (fun vs H Q E h => ?_) (fun cdv A outer s H vs Q E hr h => ?_)
  · obtain ⟨r, q, rfl, _⟩ := h
    rfl
  · obtain ⟨r, q, rfl, ⟨c, ns, i, x, k, R⟩, q0, q1, w⟩ := h
    refine ⟨_, (C8.pss_cut (ps_if (PW.pt (pw_and (pt_cmpR op_eq (pe_ix ix_list (pv 0) pe_int (fun _ _ => rfl)) pe_int (nomark _)) (pw_and1 (pt_cmpR op_lt (pe_ix ix_list (pv 0) pe_int (fun _ _ => rfl)) (pe_callB call_len (by rfl) T.n_len (by decide +kernel) (pa_cons (pe_ix ix_list (pv 0) pe_int (fun _ _ => rfl)) pa_nil)) (nomark _))))) (pss_cons (ps_set (i := 2) sc_l_draw.nd rfl (by first | exact Or.inl rfl | exact Or.inr rfl) (pe_ix ix_list (pe_ix ix_list (pv 0) pe_int (fun _ _ => rfl)) (pe_ix ix_list (pv 0) pe_int (fun _ _ => rfl)) (fun _ _ => rfl)))
          (pss_cons (ps_asg (pe_op op_add (pe_ix ix_list (pv 0) pe_int (fun _ _ => rfl)) pe_int) (pg_sub (pv 0) pe_int set_list))
          (pss_one (ps_if (pt_cmpR op_ge (pv 2) (pe_op op_pow pe_int pe_int) (nomark _)) (pss_one (ps_asg (pv 2) (pg_sub (pv 0) pe_int set_list))) (pss_one (ps_asg (pe_op op_mod (pe_op op_add (pe_op op_add (pe_op op_mul (pe_ix ix_list (pv 0) pe_int (fun _ _ => rfl)) pe_int) (pe_op op_mul (pe_op op_mod (pv 2) pe_int) pe_int)) (pe_ix ix_list (pv 0) pe_int (fun _ _ => rfl))) pe_int) (pg_sub (pv 0) pe_int set_list))))))) pss_nil)
          (pss_cons (ps_if (pt_cmpR op_gt (pe_ix ix_list (pv 0) pe_int (fun _ _ => rfl)) pe_int (nomark _)) (pss_cons (ps_set (i := 3) sc_l_draw.nd rfl (by first | exact Or.inl rfl | exact Or.inr rfl) (pe_op op_mod (pe_ix ix_list (pv 0) pe_int (fun _ _ => rfl)) (pv 1)))
          (pss_cons (ps_asg (pe_op op_fdivW (pe_ix ix_list (pv 0) pe_int (fun _ _ => rfl)) (pv 1)) (pg_sub (pv 0) pe_int set_list))
          (pss_one (ps_ret (pv 3))))) pss_nil)
          (pss_cons (ps_set (i := 4) sc_l_draw.nd rfl (by first | exact Or.inl rfl | exact Or.inr rfl) (pe_ix ix_list (pv 0) pe_int (fun _ _ => rfl)))
          (pss_cons (ps_asg (pe_op op_mod (pe_op op_add (pe_op op_add (pe_op op_mul (pv 4) (pv 4)) (pe_op op_mul (pv 4) pe_int)) pe_int) pe_int) (pg_sub (pv 0) pe_int set_list))
          (pss_one (ps_ret (pe_op op_mod (pe_op op_add (pe_op op_fdivW (pe_ix ix_list (pv 0) pe_int (fun _ _ => rfl)) pe_int) (pe_op op_mul (pe_op op_mod (pe_ix ix_list (pv 0) pe_int (fun _ _ => rfl)) pe_int) pe_int)) (pv 1)))))))), ?_⟩
    have hR := R.hr
    have hC := R.hc
    have hk0 := R.k0
    have hk1 := R.k1
    have hi0 := R.i0
    refine ⟨fun σ H1 => ∃ y i1 x1 k1, σ = [some (.ref r), some (.int q), y, none, none] ∧ RgS H1 r c ns i1 x1 k1 ∧ Kp r H H1, ?_, ?_⟩
    · refine ⟨.ref r, rfl, r, _, 2, _, rfl, rfl, SqL.of hR, rfl, rfl, _, rfl, ite2 (fun e => ?_) (fun e => ?_)⟩
      · refine ⟨.ref r, rfl, r, _, 1, _, rfl, rfl, SqL.of hR, rfl, .ref r, rfl, r, _, 0, _, rfl, rfl, SqL.of hR, rfl, .ref c, ns.length, rfl, .inl ⟨_, SqL.of hC, by simp⟩, i, _, rfl, rfl, _, rfl, ite2 (fun e1 => ?_) (fun e1 => ?_)⟩
        · have l1 : i < (ns.length : Int) := of_decide_eq_true e1
          obtain ⟨z, hz⟩ := cell_at hi0 l1
          have hx : x = 0 := V.int.inj (of_decide_eq_true e)
          refine ⟨.ref r, rfl, r, _, 0, _, rfl, rfl, SqL.of hR, rfl, .ref r, rfl, r, _, 1, _, rfl, rfl, SqL.of hR, rfl, c, _, i, .int z, rfl, rfl, SqL.of hC, hz, ?_⟩
          refine ⟨.ref r, rfl, r, _, 1, _, rfl, rfl, SqL.of hR, rfl, i, 1, rfl, rfl, .ref r, rfl, r, _, 1, 1, rfl, rfl, hR, rfl, ?_⟩
          have R1 := R.set (i' := i + 1) (x' := x) (k' := k) (by omega) (by omega) R.x0 R.k0 R.k1
          refine ⟨.int z, rfl, 10, 18, rfl, rfl, ⟨by decide, by decide, by decide⟩, z, _, rfl, rfl, _, rfl, ite2 (fun e2 => ?_) (fun e2 => ?_)⟩
          · have hz2 : (10 : Int) ^ 18 ≤ z := of_decide_eq_true e2
            have R2 := R.set (i' := i + 1) (x' := z) (k' := k) (by omega) (by omega) (by omega) R.k0 R.k1
            refine ⟨.int z, rfl, .ref r, rfl, r, _, 2, 2, rfl, rfl, R1.hr, rfl, ?_⟩
            refine ⟨_, i + 1, z, k, rfl, ?_, ?_⟩
            · rw [upd_upd]; exact R2
            · rw [upd_upd]; exact Kp.at hR
          · refine ⟨.ref r, rfl, r, _, 3, _, rfl, rfl, SqL.of R1.hr, rfl, k, 40692, rfl, rfl, .inl ⟨by omega, by omega⟩, .int z, rfl, z, 2147483563, rfl, rfl, (show (0 : Int) < 2147483563 by decide), _, 71, rfl, rfl, .inr ⟨by decide, by decide⟩, _, _, rfl, rfl,
              .ref r, rfl, r, _, 1, _, rfl, rfl, SqL.of R1.hr, rfl, _, _, rfl, rfl, _, 2147483563, rfl, rfl, (show (0 : Int) < 2147483563 by decide), .ref r, rfl, r, _, 3, 3, rfl, rfl, R1.hr, rfl, ?_⟩
            have R2 := R.set (i' := i + 1) (x' := x) (k' := (k * 40692 + z % 2147483563 * 71 + (i + 1)) % 2147483563) (by omega) (by omega) (by omega) (by omega) (by omega)
            refine ⟨_, i + 1, x, (k * 40692 + z % 2147483563 * 71 + (i + 1)) % 2147483563, rfl, ?_, ?_⟩
            · rw [upd_upd]; exact R2
            · rw [upd_upd]; exact Kp.at hR
        · exact ⟨none, i, x, k, rfl, R, Kp.refl⟩
      · exact iteF ⟨none, i, x, k, rfl, R, Kp.refl⟩
    · rintro σ H1 ⟨y, i1, x1, k1, rfl, R1, kp⟩
      have hR1 := R1.hr
      have hk0 := R1.k0
      have hk1 := R1.k1
      have hx0 := R1.x0
      refine ⟨.ref r, rfl, r, _, 2, _, rfl, rfl, SqL.of hR1, rfl, x1, 0, rfl, rfl, _, rfl, ite2 (fun e => ?_) (fun e => ?_)⟩
      · refine ⟨.ref r, rfl, r, _, 2, _, rfl, rfl, SqL.of hR1, rfl, .int q, rfl, x1, q, rfl, rfl, q0, ?_⟩
        refine ⟨.ref r, rfl, r, _, 2, _, rfl, rfl, SqL.of hR1, rfl, .int q, rfl, x1, q, rfl, rfl, div_ok q0 q1 x1, .ref r, rfl, r, _, 2, 2, rfl, rfl, hR1, rfl, ?_⟩
        refine ⟨_, rfl, w _ _ (Int.emod_nonneg _ (by omega)) (Int.emod_lt_of_pos _ q0) (kp.trans (Kp.at hR1)) ⟨c, ns, i1, x1 / q, k1, R1.set R1.i0 R1.i1 (Int.ediv_nonneg hx0 (by omega)) hk0 hk1⟩⟩
      · refine ⟨.ref r, rfl, r, _, 3, _, rfl, rfl, SqL.of hR1, rfl, ?_⟩
        refine ⟨.int k1, rfl, .int k1, rfl, k1, k1, rfl, rfl, .inl ⟨by omega, by omega⟩, .int k1, rfl, k1, 39373, rfl, rfl, .inl ⟨by omega, by omega⟩, _, _, rfl, rfl, _, _, rfl, rfl, _, 2147483563, rfl, rfl, (show (0 : Int) < 2147483563 by decide), .ref r, rfl, r, _, 3, 3, rfl, rfl, hR1, rfl, ?_⟩
        have m0 : 0 ≤ (k1 * k1 + k1 * 39373 + 80021) % 2147483563 := Int.emod_nonneg _ (by decide)
        have m1 : (k1 * k1 + k1 * 39373 + 80021) % 2147483563 < 2147483563 := Int.emod_lt_of_pos _ (by decide)
        have R2 := R1.set (k' := (k1 * k1 + k1 * 39373 + 80021) % 2147483563) R1.i0 R1.i1 R1.x0 m0 m1
        refine ⟨.ref r, rfl, r, _, 3, _, rfl, rfl, SqL.of R2.hr, rfl, _, 61, rfl, rfl, ⟨by decide, by decide⟩, .ref r, rfl, r, _, 3, _, rfl, rfl, SqL.of R2.hr, rfl, _, 8123, rfl, rfl, (show (0 : Int) < 8123 by decide), _, 223, rfl, rfl, .inr ⟨by decide, by decide⟩, _, _, rfl, rfl, .int q, rfl, _, q, rfl, rfl, q0, ?_⟩
        exact w _ _ (Int.emod_nonneg _ (by omega)) (Int.emod_lt_of_pos _ q0) (kp.trans (Kp.at hR1)) ⟨c, ns, i1, x1, _, R2⟩
end
section
variable {P : Program} {w : World} {K : PySem.W.Frag} {mg : Str → Option Value} {base : Heap} {a : Ad}
/-- what may be chosen from: a list, a tuple, a text -/
def Pick (K : PySem.W.Frag) (H : Hp) (r : Addr) (v : V) (items : List V) : Prop := (∃ p, v = .ref p ∧ p ≠ r ∧ (SqL K H p items ∨ SqT K H p items)) ∨ ∃ z : Str, v = .str z ∧ items = z.cps.toList.map fun c => V.str ⟨#[c]⟩
def sp_l_choice (K : PySem.W.Frag) : Sp := fun vs H Q _ => ∃ (r : Addr) (v : V) (items : List V), vs = [.ref r, v] ∧ Rg H r ∧ Pick K H r v items ∧ 0 < items.length ∧ items.length ≤ 100000 ∧ ∀ x ∈ items, ∀ H', Kp r H H' → Rg H' r → Q x H'
theorem at_int {α : Type} {xs : List α} {i : Int} (h0 : 0 ≤ i) (h1 : i < (xs.length : Int)) : ∃ x, atI xs i = some x ∧ x ∈ xs := by
  have e : i = ((i.toNat : Nat) : Int) := by omega
  have l : i.toNat < xs.length := by omega
  refine ⟨xs[i.toNat], ?_, List.getElem_mem l⟩
  have h : atI xs ((i.toNat : Nat) : Int) = some xs[i.toNat] := atI_nat (by simp [l])
  rw [← e] at h
  exact h

theorem ok_l_choice (T : Txt K mg a) : FnOk P w K mg base CX0 2 a.f_l_choice a.fd_l_choice ["_law_rng", "_law_some"] (sp_l_choice K) := by
  have G_l_draw := ok_l_draw (P := P) (w := w) (base := base) T
  refine T.F_l_choice.ok sc_l_choice (fun vs H Q E h => ?_) (fun cdv A outer s H vs Q E hr h => ?_)
  · obtain ⟨r, v, items, rfl, _⟩ := h
    rfl
  · obtain ⟨r, v, items, rfl, R, pk, l0, l1, w⟩ := h
    refine ⟨_, (pss_one (ps_ret (pe_ix ix_seq (pv 1) (pe_call G_l_draw (hr.mono (by first | decide | omega)) (by rfl) T.g_l_draw T.F_l_draw.kp T.b_l_draw .nil pass0 (pa_cons (pv 0) (pa_cons (pe_callB call_len (by rfl) T.n_len (by decide +kernel) (pa_cons (pv 1) pa_nil)) pa_nil))) (fun _ _ => rfl)))), ?_⟩
    have n0 : (0 : Int) < (items.length : Int) := by omega
    have n1 : (items.length : Int) < 2 ^ 64 := by omega
    rcases pk with ⟨p, rfl, np, hp⟩ | ⟨z, rfl, hz⟩
    · refine ⟨.ref p, rfl, .ref r, rfl, .ref p, rfl, .ref p, items.length, rfl, ?_, r, _, rfl, R, n0, n1, fun j H' j0 j1 kp R' => ?_⟩
      · rcases hp with hp | hp
        · exact .inl ⟨_, hp, rfl⟩
        · exact .inr ⟨_, hp, rfl⟩
      · obtain ⟨x, hx, hm⟩ := at_int (xs := items) j0 j1
        rcases hp with hp | hp
        · exact .inl ⟨p, items, j, x, rfl, rfl, kp.L np hp, hx, w x hm H' kp R'⟩
        · exact .inr (.inl ⟨p, items, j, x, rfl, rfl, kp.T np hp, hx, w x hm H' kp R'⟩)
    · have hl : z.cps.toList.length = items.length := by rw [hz]; simp
      have hl2 : z.length = items.length := by rw [← hl]; simp [Str.length]
      refine ⟨.str z, rfl, .ref r, rfl, .str z, rfl, .str z, items.length, rfl, ⟨by rw [hl2]; exact sz l1, hl2.symm⟩, r, _, rfl, R, n0, n1, fun j H' j0 j1 kp R' => ?_⟩
      obtain ⟨c, hx, hm⟩ := at_int (xs := z.cps.toList) j0 (by rw [hl]; exact j1)
      exact .inr (.inr ⟨z, j, c, rfl, rfl, by rw [hl2]; exact sz l1, hx, w _ (by rw [hz]; exact List.mem_map.mpr ⟨c, hm, rfl⟩) H' kp R'⟩)
end
section
variable {P : Program} {w : World} {K : PySem.W.Frag} {mg : Str → Option Value} {base : Heap} {a : Ad}
/-- equal data of depth below n: True -/
def spEq (K : PySem.W.Frag) : Nat → Sp
  | 0 => fun _ _ _ _ => False
  | n + 1 => fun vs H Q _ => ∃ x y, vs = [x, y] ∧ Eqd K H n x y ∧ ∀ H', Same H H' → Q (.bl true) H'
def sp_l_equal (K : PySem.W.Frag) : Sp := spEq K 21

theorem ok_l_equal_n (T : Txt K mg a) : ∀ n, FnOk P w K mg base CX0 n a.f_l_equal a.fd_l_equal ["_law_result", "_law_expected"] (spEq K n)
  | 0 => fn_false
  | n + 1 => by
    have G_l_equal := ok_l_equal_n T n
    refine T.F_l_equal.ok sc_l_equal (fun vs H Q E h => ?_) (fun cdv A outer s H vs Q E hr h => ?_)
    · obtain ⟨x, y, rfl, _⟩ := h
      rfl
    obtain ⟨x, y, rfl, hE, w⟩ := h
    refine ⟨_, (pss_cons (ps_if (pt_cmpR op_isN (pv 1) pe_non (nomark _)) (pss_one (ps_ret (pe_cmpR op_isN (pv 0) pe_non (nomark _)))) pss_nil)
      (pss_cons (ps_if (PW.pt (pw_or (pt_val (pe_callB call_isi (by rfl) T.n_isinstance (by decide +kernel) (pa_cons (pv 1) (pa_cons (pe_bltn (v := .ty "list") (by rfl) T.n_list (by decide +kernel) rfl) pa_nil)))) (pw_or1 (pt_val (pe_callB call_isi (by rfl) T.n_isinstance (by decide +kernel) (pa_cons (pv 1) (pa_cons (pe_bltn (v := .ty "tuple") (by rfl) T.n_tuple (by decide +kernel) rfl) pa_nil))))))) (pss_cons (ps_if (PW.pt (pw_or (pt_cmpR op_ne (pe_callB call_isi (by rfl) T.n_isinstance (by decide +kernel) (pa_cons (pv 0) (pa_cons (pe_bltn (v := .ty "list") (by rfl) T.n_list (by decide +kernel) rfl) pa_nil))) (pe_callB call_isi (by rfl) T.n_isinstance (by decide +kernel) (pa_cons (pv 1) (pa_cons (pe_bltn (v := .ty "list") (by rfl) T.n_list (by decide +kernel) rfl) pa_nil))) (nomark _)) (pw_or1 (pt_cmpR op_ne (pe_callB call_isi (by rfl) T.n_isinstance (by decide +kernel) (pa_cons (pv 0) (pa_cons (pe_bltn (v := .ty "tuple") (by rfl) T.n_tuple (by decide +kernel) rfl) pa_nil))) (pe_callB call_isi (by rfl) T.n_isinstance (by decide +kernel) (pa_cons (pv 1) (pa_cons (pe_bltn (v := .ty "tuple") (by rfl) T.n_tuple (by decide +kernel) rfl) pa_nil))) (nomark _))))) (pss_one (ps_ret pe_bl)) pss_nil)
      (pss_one (ps_ret (pe_and (pe_cmpR op_eq (pe_callB call_len (by rfl) T.n_len (by decide +kernel) (pa_cons (pv 0) pa_nil)) (pe_callB call_len (by rfl) T.n_len (by decide +kernel) (pa_cons (pv 1) pa_nil)) (nomark _)) (pe_one (pe_callB (cr_all rfl) (by rfl) T.n_all (by decide +kernel) (pa_cons (pe_lc (own := [("_law_one", 2), ("_law_other", 3)]) (g := gTup K 2 (gCons (gName 2) (gCons (gName 3) gNil))) rfl sc_l_equal.nd (RZ.pi_zipA (by rfl) T.n_zip (pa_cons (pv 0) (pa_cons (pv 1) pa_nil))) (blkOk_by (own := [("_law_one", 2), ("_law_other", 3)]) (N := ["_law_result", "_law_expected", "_law_one", "_law_other"]) (sc := defScope s_l_equal) (by decide +kernel)) (fun _ _ _ _ _ => (pg_tup rfl (pgs_cons (pg_name (i := 2) sc_l_equal.nd rfl (Or.inl rfl)) (pgs_cons (pg_name (i := 3) sc_l_equal.nd rfl (Or.inl rfl)) pgs_nil)))) (fun _ _ _ _ _ => pts_nil) (fun _ _ _ _ _ => (pe_call G_l_equal (hr.mono (by first | decide | omega)) (by rfl) T.g_l_equal T.F_l_equal.kp T.b_l_equal .nil pass0 (pa_cons (pv 2) (pa_cons (pv 3) pa_nil))))) pa_nil))))))) pss_nil)
      (pss_cons (ps_if (PW.pt (pw_or (pt_cmpR op_ne (pe_callB call_isi (by rfl) T.n_isinstance (by decide +kernel) (pa_cons (pv 1) (pa_cons (pe_bltn (v := .ty "bool") (by rfl) T.n_bool (by decide +kernel) rfl) pa_nil))) (pe_callB call_isi (by rfl) T.n_isinstance (by decide +kernel) (pa_cons (pv 0) (pa_cons (pe_bltn (v := .ty "bool") (by rfl) T.n_bool (by decide +kernel) rfl) pa_nil))) (nomark _)) (pw_or1 (pt_cmpR op_ne (pe_callB call_isi (by rfl) T.n_isinstance (by decide +kernel) (pa_cons (pv 1) (pa_cons (pe_bltn (v := .ty "int") (by rfl) T.n_int (by decide +kernel) rfl) pa_nil))) (pe_callB call_isi (by rfl) T.n_isinstance (by decide +kernel) (pa_cons (pv 0) (pa_cons (pe_bltn (v := .ty "int") (by rfl) T.n_int (by decide +kernel) rfl) pa_nil))) (nomark _))))) (pss_one (ps_ret pe_bl)) pss_nil)
      (pss_one (ps_ret (pe_and (pe_cmpR op_eq (pe_callB call_isi (by rfl) T.n_isinstance (by decide +kernel) (pa_cons (pv 0) (pa_cons (pe_bltn (v := .ty "str") (by rfl) T.n_str (by decide +kernel) rfl) pa_nil))) (pe_callB call_isi (by rfl) T.n_isinstance (by decide +kernel) (pa_cons (pv 1) (pa_cons (pe_bltn (v := .ty "str") (by rfl) T.n_str (by decide +kernel) rfl) pa_nil))) (nomark _)) (pe_one (pe_cmpR op_eq (pv 0) (pv 1) (nomark _))))))))), ?_⟩
    by_cases hq : x = y ∧ atom x = true
    · obtain ⟨rfl, hat⟩ := hq
      by_cases hn : x = .non
      · subst hn
        exact ⟨.non, rfl, rfl, _, rfl, ifT (decide_eq_true rfl) ⟨.non, rfl, rfl, by rw [decide_eq_true rfl]; exact w H (Same.refl H)⟩⟩
      · obtain ⟨t, b1, b2, b3, ty, hl, ht, bb, bi, bs, sc⟩ : ∃ (t : String) (b1 b2 b3 : Bool), TyX K H x (.type t) ∧ kitB t "list" = some false ∧ kitB t "tuple" = some false ∧ kitB t "bool" = some b1 ∧ kitB t "int" = some b2 ∧ kitB t "str" = some b3 ∧ scal x x = true := by
          cases x with
          | non => exact absurd rfl hn
          | bl b => exact ⟨"bool", true, true, false, .base (.bl b), by decide +kernel, by decide +kernel, by decide +kernel, by decide +kernel, by decide +kernel, rfl⟩
          | int i => exact ⟨"int", false, true, false, .base (.int i), by decide +kernel, by decide +kernel, by decide +kernel, by decide +kernel, by decide +kernel, rfl⟩
          | str z => exact ⟨"str", false, false, true, .base (.str z), by decide +kernel, by decide +kernel, by decide +kernel, by decide +kernel, by decide +kernel, rfl⟩
          | _ => cases hat
        refine ⟨x, rfl, rfl, _, rfl, ifF (decide_eq_false hn) ?_⟩
        refine ⟨x, rfl, _, _, _, _, _, rfl, .ty _, ty, kit_ty hl, false, rfl, iteF ⟨x, rfl, _, _, _, _, _, rfl, .ty _, ty, kit_ty ht, false, rfl, iteF ?_⟩⟩
        refine ⟨x, rfl, _, _, _, _, _, rfl, .ty _, ty, kit_ty bb, x, rfl, _, _, _, _, _, rfl, .ty _, ty, kit_ty bb, rfl, _, rfl, iteNS rfl ⟨x, rfl, _, _, _, _, _, rfl, .ty _, ty, kit_ty bi, x, rfl, _, _, _, _, _, rfl, .ty _, ty, kit_ty bi, rfl, _, rfl, iteNS rfl ?_⟩⟩
        refine ⟨x, rfl, _, _, _, _, _, rfl, .ty _, ty, kit_ty bs, x, rfl, _, _, _, _, _, rfl, .ty _, ty, kit_ty bs, rfl, _, rfl, ifT (decide_eq_true rfl) ⟨x, rfl, x, rfl, sc, ?_⟩⟩
        rw [decide_eq_true rfl]
        exact w H (Same.refl H)
    cases n with
    | zero => exact absurd hE hq
    | succ n =>
      rcases hE with hE | ⟨p, q, xs, ys, rfl, rfl, hS, hl, hl2, hk⟩
      · exact absurd hE hq
      have nn : ∀ q : Addr, decide (V.ref q = V.non) = false := fun q => decide_eq_false (fun z => nomatch z)
      refine ⟨.ref q, rfl, rfl, _, rfl, ifF (nn q) ?_⟩
      -- one turn of the comprehension, for lists and for tuples alike
      have turn : ∀ (D : Addr) (H1 : Hp) (i : Nat) (u v : V) (N : Hp → Prop), H D = none → Same H H1 → H1 D = some (.lst ((List.replicate i true).map V.bl)) → i < xs.length → xs[i]? = some u → ys[i]? = some v →
          (∀ H2, Same H H2 → H2 D = some (.lst ((List.replicate (i + 1) true).map V.bl)) → N H2) → spEq K (n + 1) [u, v] H1 (fun y H4 => ∃ acc, H4 D = some (.lst acc) ∧ acc.length < sizeLine ∧ N (upd H4 D (.lst (acc ++ [y])))) E0 := by
        intro D H1 i u v N nD s1 hD hi hu hv hN
        refine ⟨u, v, rfl, (hk i u v hu hv).same s1, fun H4 s4 => ⟨_, s4 _ _ hD, by rw [List.length_map, List.length_replicate]; exact szl (by omega), hN _ (fun b o e => ?_) ?_⟩⟩
        · rw [upd_ne (ne_of_none e nD)]
          exact s4 _ _ (s1 _ _ e)
        · rw [upd_same, List.replicate_succ', List.map_append]
          rfl
      have fin : ∀ (D : Addr) (H1 : Hp), Same H H1 → H1 D = some (.lst ((List.replicate xs.length true).map V.bl)) → rAll K [V.ref D] H1 Q := fun D H1 s1 hD =>
        ⟨D, List.replicate xs.length true, rfl, SqL.of hD, by
          rw [show (List.replicate xs.length true).all id = true by simp]
          exact w H1 s1⟩
      rcases hS with ⟨ha, hb⟩ | ⟨ha, hb⟩
      · refine ⟨.ref q, rfl, _, _, _, _, true, rfl, .ty _, tyL hb, kit_ty (by decide +kernel), true, rfl, iteT (iteT ?_)⟩
        refine ⟨.ref p, rfl, _, _, _, _, true, rfl, .ty _, tyL ha, kit_ty (by decide +kernel), .ref q, rfl, _, _, _, _, true, rfl, .ty _, tyL hb, kit_ty (by decide +kernel), rfl, _, rfl, iteNS rfl ?_⟩
        refine ⟨.ref p, rfl, _, _, _, _, false, rfl, .ty _, tyL ha, kit_ty (by decide +kernel), .ref q, rfl, _, _, _, _, false, rfl, .ty _, tyL hb, kit_ty (by decide +kernel), rfl, _, rfl, iteNS rfl ?_⟩
        refine ⟨.ref p, rfl, .ref p, xs.length, rfl, .inl ⟨_, ha, rfl⟩, .ref q, rfl, .ref q, ys.length, rfl, .inl ⟨_, hb, rfl⟩, rfl, _, rfl, ifT (decide_eq_true (by rw [hl])) ?_⟩
        refine ⟨.ref p, rfl, .ref q, rfl, p, q, xs, ys, rfl, .inl ⟨ha, hb, fun D nD => ?_⟩⟩
        refine ⟨fun i m H1 => i + m = xs.length ∧ Same H H1 ∧ H1 D = some (.lst ((List.replicate i true).map V.bl)), ⟨xs.length, by omega, Same.new nD, upd_same⟩, fun i m H1 hW => ?_⟩
        obtain ⟨em, s1, hD⟩ := hW
        by_cases hi : i < xs.length
        · refine .inr ⟨⟨xs, ys, xs[i], ys[i]'(by omega), s1.seq ha, s1.seq hb, List.getElem?_eq_getElem hi, List.getElem?_eq_getElem (by omega)⟩, fun H2 => Same H H2 ∧ H2 D = some (.lst ((List.replicate (i + 1) true).map V.bl)), fun H2 hN => ⟨m - 1, by omega, by omega, hN.1, hN.2⟩, fun v H2 hy => ?_⟩
          obtain ⟨tt, u1, u2, rfl, nT, rfl, f1, f2⟩ := hy
          refine ⟨tt, [u1, u2], rfl, SqT.of upd_same, rfl, u1, [u2], rfl, u2, [], rfl, rfl, rfl, ?_⟩
          refine tYes_if ?_
          refine ⟨u1, rfl, u2, rfl, turn D (upd H1 tt (.tup [u1, u2])) i u1 u2 (fun H2 => Same H H2 ∧ H2 D = some (.lst ((List.replicate (i + 1) true).map V.bl))) nD (s1.trans (Same.new nT)) ?_ hi (f1 _ (s1.seq ha)) (f2 _ (s1.seq hb)) fun H2 a b => ⟨a, b⟩⟩
          rw [upd_ne (ne_of_none hD nT)]
          exact hD
        · have ei : i = xs.length := by omega
          subst ei
          exact .inl ⟨⟨xs, ys, s1.seq ha, s1.seq hb, .inl (Nat.le_refl _)⟩, fin D H1 s1 hD⟩
      · refine ⟨.ref q, rfl, _, _, _, _, false, rfl, .ty _, tyT hb, kit_ty (by decide +kernel), false, rfl, iteF ⟨.ref q, rfl, _, _, _, _, true, rfl, .ty _, tyT hb, kit_ty (by decide +kernel), true, rfl, iteT ?_⟩⟩
        refine ⟨.ref p, rfl, _, _, _, _, false, rfl, .ty _, tyT ha, kit_ty (by decide +kernel), .ref q, rfl, _, _, _, _, false, rfl, .ty _, tyT hb, kit_ty (by decide +kernel), rfl, _, rfl, iteNS rfl ?_⟩
        refine ⟨.ref p, rfl, _, _, _, _, true, rfl, .ty _, tyT ha, kit_ty (by decide +kernel), .ref q, rfl, _, _, _, _, true, rfl, .ty _, tyT hb, kit_ty (by decide +kernel), rfl, _, rfl, iteNS rfl ?_⟩
        refine ⟨.ref p, rfl, .ref p, xs.length, rfl, .inr ⟨_, ha, rfl⟩, .ref q, rfl, .ref q, ys.length, rfl, .inr ⟨_, hb, rfl⟩, rfl, _, rfl, ifT (decide_eq_true (by rw [hl])) ?_⟩
        refine ⟨.ref p, rfl, .ref q, rfl, p, q, xs, ys, rfl, .inr ⟨ha, hb, fun D nD => ?_⟩⟩
        refine ⟨fun i m H1 => i + m = xs.length ∧ Same H H1 ∧ H1 D = some (.lst ((List.replicate i true).map V.bl)), ⟨xs.length, by omega, Same.new nD, upd_same⟩, fun i m H1 hW => ?_⟩
        obtain ⟨em, s1, hD⟩ := hW
        by_cases hi : i < xs.length
        · refine .inr ⟨⟨xs, ys, xs[i], ys[i]'(by omega), Same.T s1 ha, Same.T s1 hb, List.getElem?_eq_getElem hi, List.getElem?_eq_getElem (by omega)⟩, fun H2 => Same H H2 ∧ H2 D = some (.lst ((List.replicate (i + 1) true).map V.bl)), fun H2 hN => ⟨m - 1, by omega, by omega, hN.1, hN.2⟩, fun v H2 hy => ?_⟩
          obtain ⟨tt, u1, u2, rfl, nT, rfl, f1, f2⟩ := hy
          refine ⟨tt, [u1, u2], rfl, SqT.of upd_same, rfl, u1, [u2], rfl, u2, [], rfl, rfl, rfl, ?_⟩
          refine tYes_if ?_
          refine ⟨u1, rfl, u2, rfl, turn D (upd H1 tt (.tup [u1, u2])) i u1 u2 (fun H2 => Same H H2 ∧ H2 D = some (.lst ((List.replicate (i + 1) true).map V.bl))) nD (s1.trans (Same.new nT)) ?_ hi (f1 _ (Same.T s1 ha)) (f2 _ (Same.T s1 hb)) fun H2 a b => ⟨a, b⟩⟩
          rw [upd_ne (ne_of_none hD nT)]
          exact hD
        · have ei : i = xs.length := by omega
          subst ei
          exact .inl ⟨⟨xs, ys, Same.T s1 ha, Same.T s1 hb, .inl (Nat.le_refl _)⟩, fin D H1 s1 hD⟩
theorem ok_l_equal (T : Txt K mg a) : FnOk P w K mg base CX0 21 a.f_l_equal a.fd_l_equal ["_law_result", "_law_expected"] (sp_l_equal K) := ok_l_equal_n T 21
end
section
variable {P : Program} {w : World} {K : PySem.W.Frag} {mg : Str → Option Value} {base : Heap} {a : Ad}
def sp_l_error_field (K : PySem.W.Frag) : Sp := fun vs H Q _ => ∃ (x C dd : Addr) (fs : List (Str × V)) (tag : Str) (v : V), vs = [.ref x] ∧ H x = some (TrT.exq x (.ref C) (some dd)) ∧ H dd = some (.xd fs) ∧ fs.lookup ("tag" : Str) = some (.str tag) ∧ XfC K C ∧ PySem.W.findIn K (.ref C) "tag" = some none ∧ FldOf K C fs tag v ∧ ∀ H', Same H H' → Q v H'
theorem all_flat : ∀ l : List Str, (l.map V.str).all flatV = true := flat_strs

theorem oks_l_error_field (T : Txt K mg a) : LmN.FnS P w K mg base 1 a.f_l_error_field a.fd_l_error_field ["_law_e"] (sp_l_error_field K) := by
  refine LmN.fnS_of T.F_l_error_field sc_l_error_field (fun vs H Q E h => ?_) (fun cdv A outer s H vs Q p hr h => ?_)
  · obtain ⟨x, C, dd, fs, tag, v, rfl, _⟩ := h
    rfl
  obtain ⟨x, C, dd, fs, tag, v, rfl, hx, hd, hl, xf, n1, fo, w⟩ := h
  refine ⟨_, (pss_cons (ps_if (pt_cmpR op_in_seq (TrT.pe_xq (pv 0)) (pe_tup (pa_cons pe_str (pa_cons pe_str (pa_cons pe_str (pa_cons pe_str (pa_cons pe_str (pa_cons pe_str (pa_cons pe_str (pa_cons pe_str pa_nil))))))))) (by rfl)) (pss_one (ps_ret (TrT.pe_xq (pv 0)))) pss_nil)
      (pss_cons (ps_if (pt_cmpR op_in_seq (TrT.pe_xq (pv 0)) (pe_tup (pa_cons pe_str (pa_cons pe_str pa_nil))) (by rfl)) (pss_one (ps_ret (TrT.pe_xq (pv 0)))) pss_nil)
      (pss_cons (ps_if (pt_cmpR op_in_seq (TrT.pe_xq (pv 0)) (pe_tup (pa_cons pe_str (pa_cons pe_str pa_nil))) (by rfl)) (pss_one (ps_ret (TrT.pe_xq (pv 0)))) pss_nil)
      (pss_cons (ps_if (pt_cmpR op_in_seq (TrT.pe_xq (pv 0)) (pe_tup (pa_cons pe_str (pa_cons pe_str pa_nil))) (by rfl)) (pss_one (ps_ret (pe_ifExp (pt_cmpR op_eq (TrT.pe_xq (pv 0)) pe_str (nomark _)) (TrT.pe_xq (pv 0)) (TrT.pe_xq (pv 0))))) pss_nil)
      (pss_one (ps_ret (pe_ifExp (pt_cmpR op_eq (TrT.pe_xq (pv 0)) pe_str (nomark _)) (TrT.pe_xq (pv 0)) pe_non))))))), ?_⟩
  have rd : ∀ H', Same H H' → H' x = some (TrT.exq x (.ref C) (some dd)) ∧ H' dd = some (.xd fs) := fun H' s => ⟨s _ _ hx, s _ _ hd⟩
  rcases fo with ⟨fld, hm, hv, n2⟩ | ⟨hm, rfl⟩
  rotate_left
  · simp only [nfTab, List.mem_cons, List.not_mem_nil, or_false] at hm
    rcases hm with rfl | rfl
    · -- NameMismatch
      refine ⟨.ref x, rfl, x, C, dd, fs, _, rfl, (rd _ (Same.refl H)).1, (rd _ (Same.refl H)).2, hl, xf, n1, sz (by show 8 ≤ 100000; decide), fun q0 nq0 => ?_⟩
      have s0 := ((Same.refl H)).trans (Same.new (o := .tup [.str "InvalidTerm", .str "InvalidName", .str "TermTooLarge", .str "DuplicateName", .str "SystemInUse", .str "UnknownEvent", .str "UnknownSystem", .str "UnknownRun"]) nq0)
      refine ⟨q0, _, rfl, .inr (SqT.of upd_same), rfl, rfl, _, rfl, ifF (by decide +kernel) ?_⟩
      refine ⟨.ref x, rfl, x, C, dd, fs, _, rfl, (rd _ s0).1, (rd _ s0).2, hl, xf, n1, sz (by show 2 ≤ 100000; decide), fun q1 nq1 => ?_⟩
      have s1 := (s0).trans (Same.new (o := .tup [.str "InvalidRound", .str "InvalidLimit"]) nq1)
      refine ⟨q1, _, rfl, .inr (SqT.of upd_same), rfl, rfl, _, rfl, ifF (by decide +kernel) ?_⟩
      refine ⟨.ref x, rfl, x, C, dd, fs, _, rfl, (rd _ s1).1, (rd _ s1).2, hl, xf, n1, sz (by show 2 ≤ 100000; decide), fun q2 nq2 => ?_⟩
      have s2 := (s1).trans (Same.new (o := .tup [.str "InvalidShape", .str "ParseError"]) nq2)
      refine ⟨q2, _, rfl, .inr (SqT.of upd_same), rfl, rfl, _, rfl, ifF (by decide +kernel) ?_⟩
      refine ⟨.ref x, rfl, x, C, dd, fs, _, rfl, (rd _ s2).1, (rd _ s2).2, hl, xf, n1, sz (by show 2 ≤ 100000; decide), fun q3 nq3 => ?_⟩
      have s3 := (s2).trans (Same.new (o := .tup [.str "CapacityExceeded", .str "InvalidCount"]) nq3)
      refine ⟨q3, _, rfl, .inr (SqT.of upd_same), rfl, rfl, _, rfl, ifF (by decide +kernel) ?_⟩
      exact ⟨.ref x, rfl, x, C, dd, fs, _, rfl, (rd _ s3).1, (rd _ s3).2, hl, xf, n1, rfl, _, rfl, ifF (by decide +kernel) (w _ s3)⟩
    · -- InvalidTimes
      refine ⟨.ref x, rfl, x, C, dd, fs, _, rfl, (rd _ (Same.refl H)).1, (rd _ (Same.refl H)).2, hl, xf, n1, sz (by show 8 ≤ 100000; decide), fun q0 nq0 => ?_⟩
      have s0 := ((Same.refl H)).trans (Same.new (o := .tup [.str "InvalidTerm", .str "InvalidName", .str "TermTooLarge", .str "DuplicateName", .str "SystemInUse", .str "UnknownEvent", .str "UnknownSystem", .str "UnknownRun"]) nq0)
      refine ⟨q0, _, rfl, .inr (SqT.of upd_same), rfl, rfl, _, rfl, ifF (by decide +kernel) ?_⟩
      refine ⟨.ref x, rfl, x, C, dd, fs, _, rfl, (rd _ s0).1, (rd _ s0).2, hl, xf, n1, sz (by show 2 ≤ 100000; decide), fun q1 nq1 => ?_⟩
      have s1 := (s0).trans (Same.new (o := .tup [.str "InvalidRound", .str "InvalidLimit"]) nq1)
      refine ⟨q1, _, rfl, .inr (SqT.of upd_same), rfl, rfl, _, rfl, ifF (by decide +kernel) ?_⟩
      refine ⟨.ref x, rfl, x, C, dd, fs, _, rfl, (rd _ s1).1, (rd _ s1).2, hl, xf, n1, sz (by show 2 ≤ 100000; decide), fun q2 nq2 => ?_⟩
      have s2 := (s1).trans (Same.new (o := .tup [.str "InvalidShape", .str "ParseError"]) nq2)
      refine ⟨q2, _, rfl, .inr (SqT.of upd_same), rfl, rfl, _, rfl, ifF (by decide +kernel) ?_⟩
      refine ⟨.ref x, rfl, x, C, dd, fs, _, rfl, (rd _ s2).1, (rd _ s2).2, hl, xf, n1, sz (by show 2 ≤ 100000; decide), fun q3 nq3 => ?_⟩
      have s3 := (s2).trans (Same.new (o := .tup [.str "CapacityExceeded", .str "InvalidCount"]) nq3)
      refine ⟨q3, _, rfl, .inr (SqT.of upd_same), rfl, rfl, _, rfl, ifF (by decide +kernel) ?_⟩
      exact ⟨.ref x, rfl, x, C, dd, fs, _, rfl, (rd _ s3).1, (rd _ s3).2, hl, xf, n1, rfl, _, rfl, ifF (by decide +kernel) (w _ s3)⟩
  simp only [efTab, List.mem_cons, List.not_mem_nil, or_false, Prod.mk.injEq] at hm
  rcases hm with ⟨rfl, rfl⟩ | ⟨rfl, rfl⟩ | ⟨rfl, rfl⟩ | ⟨rfl, rfl⟩ | ⟨rfl, rfl⟩ | ⟨rfl, rfl⟩ | ⟨rfl, rfl⟩ | ⟨rfl, rfl⟩ | ⟨rfl, rfl⟩ | ⟨rfl, rfl⟩ | ⟨rfl, rfl⟩ | ⟨rfl, rfl⟩ | ⟨rfl, rfl⟩ | ⟨rfl, rfl⟩ | ⟨rfl, rfl⟩
  · -- InvalidTerm
    refine ⟨.ref x, rfl, x, C, dd, fs, _, rfl, (rd _ (Same.refl H)).1, (rd _ (Same.refl H)).2, hl, xf, n1, sz (by show 8 ≤ 100000; decide), fun q0 nq0 => ?_⟩
    have s0 := ((Same.refl H)).trans (Same.new (o := .tup [.str "InvalidTerm", .str "InvalidName", .str "TermTooLarge", .str "DuplicateName", .str "SystemInUse", .str "UnknownEvent", .str "UnknownSystem", .str "UnknownRun"]) nq0)
    refine ⟨q0, _, rfl, .inr (SqT.of upd_same), rfl, rfl, _, rfl, ifT (by decide +kernel) ?_⟩
    exact ⟨.ref x, rfl, x, C, dd, fs, _, rfl, (rd _ s0).1, (rd _ s0).2, hv, xf, n2, w _ s0⟩
  · -- InvalidName
    refine ⟨.ref x, rfl, x, C, dd, fs, _, rfl, (rd _ (Same.refl H)).1, (rd _ (Same.refl H)).2, hl, xf, n1, sz (by show 8 ≤ 100000; decide), fun q0 nq0 => ?_⟩
    have s0 := ((Same.refl H)).trans (Same.new (o := .tup [.str "InvalidTerm", .str "InvalidName", .str "TermTooLarge", .str "DuplicateName", .str "SystemInUse", .str "UnknownEvent", .str "UnknownSystem", .str "UnknownRun"]) nq0)
    refine ⟨q0, _, rfl, .inr (SqT.of upd_same), rfl, rfl, _, rfl, ifT (by decide +kernel) ?_⟩
    exact ⟨.ref x, rfl, x, C, dd, fs, _, rfl, (rd _ s0).1, (rd _ s0).2, hv, xf, n2, w _ s0⟩
  · -- TermTooLarge
    refine ⟨.ref x, rfl, x, C, dd, fs, _, rfl, (rd _ (Same.refl H)).1, (rd _ (Same.refl H)).2, hl, xf, n1, sz (by show 8 ≤ 100000; decide), fun q0 nq0 => ?_⟩
    have s0 := ((Same.refl H)).trans (Same.new (o := .tup [.str "InvalidTerm", .str "InvalidName", .str "TermTooLarge", .str "DuplicateName", .str "SystemInUse", .str "UnknownEvent", .str "UnknownSystem", .str "UnknownRun"]) nq0)
    refine ⟨q0, _, rfl, .inr (SqT.of upd_same), rfl, rfl, _, rfl, ifT (by decide +kernel) ?_⟩
    exact ⟨.ref x, rfl, x, C, dd, fs, _, rfl, (rd _ s0).1, (rd _ s0).2, hv, xf, n2, w _ s0⟩
  · -- DuplicateName
    refine ⟨.ref x, rfl, x, C, dd, fs, _, rfl, (rd _ (Same.refl H)).1, (rd _ (Same.refl H)).2, hl, xf, n1, sz (by show 8 ≤ 100000; decide), fun q0 nq0 => ?_⟩
    have s0 := ((Same.refl H)).trans (Same.new (o := .tup [.str "InvalidTerm", .str "InvalidName", .str "TermTooLarge", .str "DuplicateName", .str "SystemInUse", .str "UnknownEvent", .str "UnknownSystem", .str "UnknownRun"]) nq0)
    refine ⟨q0, _, rfl, .inr (SqT.of upd_same), rfl, rfl, _, rfl, ifT (by decide +kernel) ?_⟩
    exact ⟨.ref x, rfl, x, C, dd, fs, _, rfl, (rd _ s0).1, (rd _ s0).2, hv, xf, n2, w _ s0⟩
  · -- SystemInUse
    refine ⟨.ref x, rfl, x, C, dd, fs, _, rfl, (rd _ (Same.refl H)).1, (rd _ (Same.refl H)).2, hl, xf, n1, sz (by show 8 ≤ 100000; decide), fun q0 nq0 => ?_⟩
    have s0 := ((Same.refl H)).trans (Same.new (o := .tup [.str "InvalidTerm", .str "InvalidName", .str "TermTooLarge", .str "DuplicateName", .str "SystemInUse", .str "UnknownEvent", .str "UnknownSystem", .str "UnknownRun"]) nq0)
    refine ⟨q0, _, rfl, .inr (SqT.of upd_same), rfl, rfl, _, rfl, ifT (by decide +kernel) ?_⟩
    exact ⟨.ref x, rfl, x, C, dd, fs, _, rfl, (rd _ s0).1, (rd _ s0).2, hv, xf, n2, w _ s0⟩
  · -- UnknownEvent
    refine ⟨.ref x, rfl, x, C, dd, fs, _, rfl, (rd _ (Same.refl H)).1, (rd _ (Same.refl H)).2, hl, xf, n1, sz (by show 8 ≤ 100000; decide), fun q0 nq0 => ?_⟩
    have s0 := ((Same.refl H)).trans (Same.new (o := .tup [.str "InvalidTerm", .str "InvalidName", .str "TermTooLarge", .str "DuplicateName", .str "SystemInUse", .str "UnknownEvent", .str "UnknownSystem", .str "UnknownRun"]) nq0)
    refine ⟨q0, _, rfl, .inr (SqT.of upd_same), rfl, rfl, _, rfl, ifT (by decide +kernel) ?_⟩
    exact ⟨.ref x, rfl, x, C, dd, fs, _, rfl, (rd _ s0).1, (rd _ s0).2, hv, xf, n2, w _ s0⟩
  · -- UnknownSystem
    refine ⟨.ref x, rfl, x, C, dd, fs, _, rfl, (rd _ (Same.refl H)).1, (rd _ (Same.refl H)).2, hl, xf, n1, sz (by show 8 ≤ 100000; decide), fun q0 nq0 => ?_⟩
    have s0 := ((Same.refl H)).trans (Same.new (o := .tup [.str "InvalidTerm", .str "InvalidName", .str "TermTooLarge", .str "DuplicateName", .str "SystemInUse", .str "UnknownEvent", .str "UnknownSystem", .str "UnknownRun"]) nq0)
    refine ⟨q0, _, rfl, .inr (SqT.of upd_same), rfl, rfl, _, rfl, ifT (by decide +kernel) ?_⟩
    exact ⟨.ref x, rfl, x, C, dd, fs, _, rfl, (rd _ s0).1, (rd _ s0).2, hv, xf, n2, w _ s0⟩
  · -- UnknownRun
    refine ⟨.ref x, rfl, x, C, dd, fs, _, rfl, (rd _ (Same.refl H)).1, (rd _ (Same.refl H)).2, hl, xf, n1, sz (by show 8 ≤ 100000; decide), fun q0 nq0 => ?_⟩
    have s0 := ((Same.refl H)).trans (Same.new (o := .tup [.str "InvalidTerm", .str "InvalidName", .str "TermTooLarge", .str "DuplicateName", .str "SystemInUse", .str "UnknownEvent", .str "UnknownSystem", .str "UnknownRun"]) nq0)
    refine ⟨q0, _, rfl, .inr (SqT.of upd_same), rfl, rfl, _, rfl, ifT (by decide +kernel) ?_⟩
    exact ⟨.ref x, rfl, x, C, dd, fs, _, rfl, (rd _ s0).1, (rd _ s0).2, hv, xf, n2, w _ s0⟩
  · -- InvalidRound
    refine ⟨.ref x, rfl, x, C, dd, fs, _, rfl, (rd _ (Same.refl H)).1, (rd _ (Same.refl H)).2, hl, xf, n1, sz (by show 8 ≤ 100000; decide), fun q0 nq0 => ?_⟩
    have s0 := ((Same.refl H)).trans (Same.new (o := .tup [.str "InvalidTerm", .str "InvalidName", .str "TermTooLarge", .str "DuplicateName", .str "SystemInUse", .str "UnknownEvent", .str "UnknownSystem", .str "UnknownRun"]) nq0)
    refine ⟨q0, _, rfl, .inr (SqT.of upd_same), rfl, rfl, _, rfl, ifF (by decide +kernel) ?_⟩
    refine ⟨.ref x, rfl, x, C, dd, fs, _, rfl, (rd _ s0).1, (rd _ s0).2, hl, xf, n1, sz (by show 2 ≤ 100000; decide), fun q1 nq1 => ?_⟩
    have s1 := (s0).trans (Same.new (o := .tup [.str "InvalidRound", .str "InvalidLimit"]) nq1)
    refine ⟨q1, _, rfl, .inr (SqT.of upd_same), rfl, rfl, _, rfl, ifT (by decide +kernel) ?_⟩
    exact ⟨.ref x, rfl, x, C, dd, fs, _, rfl, (rd _ s1).1, (rd _ s1).2, hv, xf, n2, w _ s1⟩
  · -- InvalidLimit
    refine ⟨.ref x, rfl, x, C, dd, fs, _, rfl, (rd _ (Same.refl H)).1, (rd _ (Same.refl H)).2, hl, xf, n1, sz (by show 8 ≤ 100000; decide), fun q0 nq0 => ?_⟩
    have s0 := ((Same.refl H)).trans (Same.new (o := .tup [.str "InvalidTerm", .str "InvalidName", .str "TermTooLarge", .str "DuplicateName", .str "SystemInUse", .str "UnknownEvent", .str "UnknownSystem", .str "UnknownRun"]) nq0)
    refine ⟨q0, _, rfl, .inr (SqT.of upd_same), rfl, rfl, _, rfl, ifF (by decide +kernel) ?_⟩
    refine ⟨.ref x, rfl, x, C, dd, fs, _, rfl, (rd _ s0).1, (rd _ s0).2, hl, xf, n1, sz (by show 2 ≤ 100000; decide), fun q1 nq1 => ?_⟩
    have s1 := (s0).trans (Same.new (o := .tup [.str "InvalidRound", .str "InvalidLimit"]) nq1)
    refine ⟨q1, _, rfl, .inr (SqT.of upd_same), rfl, rfl, _, rfl, ifT (by decide +kernel) ?_⟩
    exact ⟨.ref x, rfl, x, C, dd, fs, _, rfl, (rd _ s1).1, (rd _ s1).2, hv, xf, n2, w _ s1⟩
  · -- InvalidShape
    refine ⟨.ref x, rfl, x, C, dd, fs, _, rfl, (rd _ (Same.refl H)).1, (rd _ (Same.refl H)).2, hl, xf, n1, sz (by show 8 ≤ 100000; decide), fun q0 nq0 => ?_⟩
    have s0 := ((Same.refl H)).trans (Same.new (o := .tup [.str "InvalidTerm", .str "InvalidName", .str "TermTooLarge", .str "DuplicateName", .str "SystemInUse", .str "UnknownEvent", .str "UnknownSystem", .str "UnknownRun"]) nq0)
    refine ⟨q0, _, rfl, .inr (SqT.of upd_same), rfl, rfl, _, rfl, ifF (by decide +kernel) ?_⟩
    refine ⟨.ref x, rfl, x, C, dd, fs, _, rfl, (rd _ s0).1, (rd _ s0).2, hl, xf, n1, sz (by show 2 ≤ 100000; decide), fun q1 nq1 => ?_⟩
    have s1 := (s0).trans (Same.new (o := .tup [.str "InvalidRound", .str "InvalidLimit"]) nq1)
    refine ⟨q1, _, rfl, .inr (SqT.of upd_same), rfl, rfl, _, rfl, ifF (by decide +kernel) ?_⟩
    refine ⟨.ref x, rfl, x, C, dd, fs, _, rfl, (rd _ s1).1, (rd _ s1).2, hl, xf, n1, sz (by show 2 ≤ 100000; decide), fun q2 nq2 => ?_⟩
    have s2 := (s1).trans (Same.new (o := .tup [.str "InvalidShape", .str "ParseError"]) nq2)
    refine ⟨q2, _, rfl, .inr (SqT.of upd_same), rfl, rfl, _, rfl, ifT (by decide +kernel) ?_⟩
    exact ⟨.ref x, rfl, x, C, dd, fs, _, rfl, (rd _ s2).1, (rd _ s2).2, hv, xf, n2, w _ s2⟩
  · -- ParseError
    refine ⟨.ref x, rfl, x, C, dd, fs, _, rfl, (rd _ (Same.refl H)).1, (rd _ (Same.refl H)).2, hl, xf, n1, sz (by show 8 ≤ 100000; decide), fun q0 nq0 => ?_⟩
    have s0 := ((Same.refl H)).trans (Same.new (o := .tup [.str "InvalidTerm", .str "InvalidName", .str "TermTooLarge", .str "DuplicateName", .str "SystemInUse", .str "UnknownEvent", .str "UnknownSystem", .str "UnknownRun"]) nq0)
    refine ⟨q0, _, rfl, .inr (SqT.of upd_same), rfl, rfl, _, rfl, ifF (by decide +kernel) ?_⟩
    refine ⟨.ref x, rfl, x, C, dd, fs, _, rfl, (rd _ s0).1, (rd _ s0).2, hl, xf, n1, sz (by show 2 ≤ 100000; decide), fun q1 nq1 => ?_⟩
    have s1 := (s0).trans (Same.new (o := .tup [.str "InvalidRound", .str "InvalidLimit"]) nq1)
    refine ⟨q1, _, rfl, .inr (SqT.of upd_same), rfl, rfl, _, rfl, ifF (by decide +kernel) ?_⟩
    refine ⟨.ref x, rfl, x, C, dd, fs, _, rfl, (rd _ s1).1, (rd _ s1).2, hl, xf, n1, sz (by show 2 ≤ 100000; decide), fun q2 nq2 => ?_⟩
    have s2 := (s1).trans (Same.new (o := .tup [.str "InvalidShape", .str "ParseError"]) nq2)
    refine ⟨q2, _, rfl, .inr (SqT.of upd_same), rfl, rfl, _, rfl, ifT (by decide +kernel) ?_⟩
    exact ⟨.ref x, rfl, x, C, dd, fs, _, rfl, (rd _ s2).1, (rd _ s2).2, hv, xf, n2, w _ s2⟩
  · -- InvalidCount
    refine ⟨.ref x, rfl, x, C, dd, fs, _, rfl, (rd _ (Same.refl H)).1, (rd _ (Same.refl H)).2, hl, xf, n1, sz (by show 8 ≤ 100000; decide), fun q0 nq0 => ?_⟩
    have s0 := ((Same.refl H)).trans (Same.new (o := .tup [.str "InvalidTerm", .str "InvalidName", .str "TermTooLarge", .str "DuplicateName", .str "SystemInUse", .str "UnknownEvent", .str "UnknownSystem", .str "UnknownRun"]) nq0)
    refine ⟨q0, _, rfl, .inr (SqT.of upd_same), rfl, rfl, _, rfl, ifF (by decide +kernel) ?_⟩
    refine ⟨.ref x, rfl, x, C, dd, fs, _, rfl, (rd _ s0).1, (rd _ s0).2, hl, xf, n1, sz (by show 2 ≤ 100000; decide), fun q1 nq1 => ?_⟩
    have s1 := (s0).trans (Same.new (o := .tup [.str "InvalidRound", .str "InvalidLimit"]) nq1)
    refine ⟨q1, _, rfl, .inr (SqT.of upd_same), rfl, rfl, _, rfl, ifF (by decide +kernel) ?_⟩
    refine ⟨.ref x, rfl, x, C, dd, fs, _, rfl, (rd _ s1).1, (rd _ s1).2, hl, xf, n1, sz (by show 2 ≤ 100000; decide), fun q2 nq2 => ?_⟩
    have s2 := (s1).trans (Same.new (o := .tup [.str "InvalidShape", .str "ParseError"]) nq2)
    refine ⟨q2, _, rfl, .inr (SqT.of upd_same), rfl, rfl, _, rfl, ifF (by decide +kernel) ?_⟩
    refine ⟨.ref x, rfl, x, C, dd, fs, _, rfl, (rd _ s2).1, (rd _ s2).2, hl, xf, n1, sz (by show 2 ≤ 100000; decide), fun q3 nq3 => ?_⟩
    have s3 := (s2).trans (Same.new (o := .tup [.str "CapacityExceeded", .str "InvalidCount"]) nq3)
    refine ⟨q3, _, rfl, .inr (SqT.of upd_same), rfl, rfl, _, rfl, ifT (by decide +kernel) ?_⟩
    exact ⟨.ref x, rfl, x, C, dd, fs, _, rfl, (rd _ s3).1, (rd _ s3).2, hl, xf, n1, rfl, _, rfl, ifT (by decide +kernel) ⟨.ref x, rfl, x, C, dd, fs, _, rfl, (rd _ s3).1, (rd _ s3).2, hv, xf, n2, w _ s3⟩⟩
  · -- CapacityExceeded
    refine ⟨.ref x, rfl, x, C, dd, fs, _, rfl, (rd _ (Same.refl H)).1, (rd _ (Same.refl H)).2, hl, xf, n1, sz (by show 8 ≤ 100000; decide), fun q0 nq0 => ?_⟩
    have s0 := ((Same.refl H)).trans (Same.new (o := .tup [.str "InvalidTerm", .str "InvalidName", .str "TermTooLarge", .str "DuplicateName", .str "SystemInUse", .str "UnknownEvent", .str "UnknownSystem", .str "UnknownRun"]) nq0)
    refine ⟨q0, _, rfl, .inr (SqT.of upd_same), rfl, rfl, _, rfl, ifF (by decide +kernel) ?_⟩
    refine ⟨.ref x, rfl, x, C, dd, fs, _, rfl, (rd _ s0).1, (rd _ s0).2, hl, xf, n1, sz (by show 2 ≤ 100000; decide), fun q1 nq1 => ?_⟩
    have s1 := (s0).trans (Same.new (o := .tup [.str "InvalidRound", .str "InvalidLimit"]) nq1)
    refine ⟨q1, _, rfl, .inr (SqT.of upd_same), rfl, rfl, _, rfl, ifF (by decide +kernel) ?_⟩
    refine ⟨.ref x, rfl, x, C, dd, fs, _, rfl, (rd _ s1).1, (rd _ s1).2, hl, xf, n1, sz (by show 2 ≤ 100000; decide), fun q2 nq2 => ?_⟩
    have s2 := (s1).trans (Same.new (o := .tup [.str "InvalidShape", .str "ParseError"]) nq2)
    refine ⟨q2, _, rfl, .inr (SqT.of upd_same), rfl, rfl, _, rfl, ifF (by decide +kernel) ?_⟩
    refine ⟨.ref x, rfl, x, C, dd, fs, _, rfl, (rd _ s2).1, (rd _ s2).2, hl, xf, n1, sz (by show 2 ≤ 100000; decide), fun q3 nq3 => ?_⟩
    have s3 := (s2).trans (Same.new (o := .tup [.str "CapacityExceeded", .str "InvalidCount"]) nq3)
    refine ⟨q3, _, rfl, .inr (SqT.of upd_same), rfl, rfl, _, rfl, ifT (by decide +kernel) ?_⟩
    exact ⟨.ref x, rfl, x, C, dd, fs, _, rfl, (rd _ s3).1, (rd _ s3).2, hl, xf, n1, rfl, _, rfl, ifF (by decide +kernel) ⟨.ref x, rfl, x, C, dd, fs, _, rfl, (rd _ s3).1, (rd _ s3).2, hv, xf, n2, w _ s3⟩⟩
  · -- InvalidCommand
    refine ⟨.ref x, rfl, x, C, dd, fs, _, rfl, (rd _ (Same.refl H)).1, (rd _ (Same.refl H)).2, hl, xf, n1, sz (by show 8 ≤ 100000; decide), fun q0 nq0 => ?_⟩
    have s0 := ((Same.refl H)).trans (Same.new (o := .tup [.str "InvalidTerm", .str "InvalidName", .str "TermTooLarge", .str "DuplicateName", .str "SystemInUse", .str "UnknownEvent", .str "UnknownSystem", .str "UnknownRun"]) nq0)
    refine ⟨q0, _, rfl, .inr (SqT.of upd_same), rfl, rfl, _, rfl, ifF (by decide +kernel) ?_⟩
    refine ⟨.ref x, rfl, x, C, dd, fs, _, rfl, (rd _ s0).1, (rd _ s0).2, hl, xf, n1, sz (by show 2 ≤ 100000; decide), fun q1 nq1 => ?_⟩
    have s1 := (s0).trans (Same.new (o := .tup [.str "InvalidRound", .str "InvalidLimit"]) nq1)
    refine ⟨q1, _, rfl, .inr (SqT.of upd_same), rfl, rfl, _, rfl, ifF (by decide +kernel) ?_⟩
    refine ⟨.ref x, rfl, x, C, dd, fs, _, rfl, (rd _ s1).1, (rd _ s1).2, hl, xf, n1, sz (by show 2 ≤ 100000; decide), fun q2 nq2 => ?_⟩
    have s2 := (s1).trans (Same.new (o := .tup [.str "InvalidShape", .str "ParseError"]) nq2)
    refine ⟨q2, _, rfl, .inr (SqT.of upd_same), rfl, rfl, _, rfl, ifF (by decide +kernel) ?_⟩
    refine ⟨.ref x, rfl, x, C, dd, fs, _, rfl, (rd _ s2).1, (rd _ s2).2, hl, xf, n1, sz (by show 2 ≤ 100000; decide), fun q3 nq3 => ?_⟩
    have s3 := (s2).trans (Same.new (o := .tup [.str "CapacityExceeded", .str "InvalidCount"]) nq3)
    refine ⟨q3, _, rfl, .inr (SqT.of upd_same), rfl, rfl, _, rfl, ifF (by decide +kernel) ?_⟩
    exact ⟨.ref x, rfl, x, C, dd, fs, _, rfl, (rd _ s3).1, (rd _ s3).2, hl, xf, n1, rfl, _, rfl, ifT (by decide +kernel) ⟨.ref x, rfl, x, C, dd, fs, _, rfl, (rd _ s3).1, (rd _ s3).2, hv, xf, n2, w _ s3⟩⟩
end
section
variable {P : Program} {w : World} {K : PySem.W.Frag} {mg : Str → Option Value} {base : Heap} {a : Ad}
theorem roomH_of {X : Cx} {k : Nat} {A : Around} {a : Value} (r : Room (k + 1) A) : L2H.RoomH 1 { A with handled := some a } := ⟨by have := r.dp; show A.depth + 3 * 1 + 5 < _; omega, by have := r.un; show A.units + 16 * 1 + 200 < _; omega⟩

theorem giv_l_outcome {X : Cx} {a : Ad} (T : Txt X.K X.mg a) {k : Nat} {q : Str} {cdv : Value} : LmN.Gives X ["_law_ask", "_law_answer", "_law_tag", "_law_field", "_law_e"] "_law_outcome" (defScope s_l_outcome) a.f_l_outcome cdv (defBody s_l_outcome) "_law_ask" q (k + 1) (TTo X.K a) := by
  intro f c s H Q tl hr act hc h
  refine ⟨_, pss_cons (ps_asg (pe_tup (pa_cons pe_non (pa_cons pe_str (pa_cons pe_non pa_nil)))) (pg_tup rfl (pgs_cons (pg_name (i := 1) sc_l_outcome.nd rfl (Or.inl rfl)) (pgs_cons (pg_name (i := 2) sc_l_outcome.nd rfl (Or.inl rfl)) (pgs_cons (pg_name (i := 3) sc_l_outcome.nd rfl (Or.inl rfl)) pgs_nil)))))
    (pss_cons (TrT.ps_try_tup (X := (LmN.gCx X CX0 E0 ["_law_ask", "_law_answer", "_law_tag", "_law_field", "_law_e"] "_law_outcome" (defScope s_l_outcome) a.f_l_outcome cdv s H).nox) (i := 4) (n := "_law_e") rfl rfl sc_l_outcome.nd rfl rfl takesN (fun W pn xe tk _ => pss_one (ps_set (i := 1) sc_l_outcome.nd rfl (.inl rfl) (act W pn xe _ _ tk)))
      (l := [((.ref a.C_GaitError, .ref a.C_NotFound), fun a0 => TrT.tParH a0 2 3 (tCons (TrT.tXq X.K "tag" (tVar 4)) (tCons (fun σ H Q => tCons (tVar 4) tNil σ H fun vs H1 => sp_l_error_field X.K vs H1 Q L2.E0) tNil))), ((.ref a.C_ZeroDenominator, .ref a.C_EmptyHistory), fun _ => tAsg (TrT.tXq X.K "tag" (tVar 4)) (gName 2))])
      (by
        refine .cons (by rfl) T.gC_GaitError (by decide) (by rfl) T.gC_NotFound (by decide) (fun a0 _ => ?_) ?_
        · exact pss_one (TrT.ps_parH (i := 2) (j := 3) rfl sc_l_outcome.nd rfl rfl (by decide) rfl rfl (pa_cons (TrT.pe_xq (pv 4)) (pa_cons (LmN.pe_callS (oks_l_error_field T) (roomH_of (X := X) hr) (by rfl) T.g_l_error_field T.F_l_error_field.kp T.b_l_error_field (pa_cons (pv 4) pa_nil)) pa_nil)) (by rfl))
        refine .cons (by rfl) T.gC_ZeroDenominator (by decide) (by rfl) T.gC_EmptyHistory (by decide) (fun _ _ => ?_) .nil
        exact pss_one (ps_set (i := 2) sc_l_outcome.nd rfl (.inl rfl) (TrT.pe_xq (pv 4)))))
    (pss_one (ps_ret (pe_tup (pa_cons (pv 1) (pa_cons (pv 2) (pa_cons (pv 3) pa_nil))))))), ?_⟩
  refine ⟨sz (by show 3 ≤ 100000; decide), fun tp ntp => ?_⟩
  have s0 := Same.new (o := .tup [.non, .str "", .non]) ntp
  refine ⟨tp, _, rfl, SqT.of upd_same, rfl, _, _, rfl, _, _, rfl, _, _, rfl, rfl, ?_⟩
  refine ⟨rfl, s0 _ _ hc, _, _, ?_, ?_, h _ s0⟩
  · rintro cls d H' ⟨C, dd, fs, tag, rfl, rfl, hd, hl, xf, no, (⟨e1, e2, w⟩ | ⟨e1, hm, w⟩) | ⟨e1, fld, v, hm, hv, nf, w⟩⟩
    · refine ⟨false, e1, fun z => (by cases z), fun _ => ⟨true, e2, fun _ x nx => ?_, fun z => (by cases z)⟩⟩
      have s1 := Same.new (o := TrT.exq x (.ref C) (some dd)) nx
      refine ⟨.ref x, rfl, x, C, dd, fs, .str tag, rfl, upd_same, s1 _ _ hd, hl, xf, no, ?_⟩
      exact ⟨.non, rfl, .str tag, rfl, .non, rfl, sz (by show 3 ≤ 100000; decide), fun p np => w p _ (s1.trans (Same.new np)) (s1.free np) upd_same⟩
    · refine ⟨true, e1, fun _ x nx => ?_, fun z => (by cases z)⟩
      have s1 := Same.new (o := TrT.exq x (.ref C) (some dd)) nx
      refine ⟨.ref x, rfl, x, C, dd, fs, .str tag, rfl, upd_same, s1 _ _ hd, hl, xf, no, .ref x, rfl, ?_⟩
      refine ⟨x, C, dd, fs, tag, .non, rfl, upd_same, s1 _ _ hd, hl, xf, no, .inr ⟨hm, rfl⟩, fun H2 s2 => ⟨_, _, _, _, rfl, s2 _ _ upd_same, ?_⟩⟩
      have s3 := s1.trans s2
      exact ⟨.non, rfl, .str tag, rfl, .non, rfl, sz (by show 3 ≤ 100000; decide), fun p np => w p _ (s3.trans (Same.new np)) (s3.free np) upd_same⟩
    · refine ⟨true, e1, fun _ x nx => ?_, fun z => (by cases z)⟩
      have s1 := Same.new (o := TrT.exq x (.ref C) (some dd)) nx
      refine ⟨.ref x, rfl, x, C, dd, fs, .str tag, rfl, upd_same, s1 _ _ hd, hl, xf, no, .ref x, rfl, ?_⟩
      refine ⟨x, C, dd, fs, tag, v, rfl, upd_same, s1 _ _ hd, hl, xf, no, .inl ⟨fld, hm, hv, nf⟩, fun H2 s2 => ⟨_, _, _, _, rfl, s2 _ _ upd_same, ?_⟩⟩
      have s3 := s1.trans s2
      exact ⟨.non, rfl, .str tag, rfl, v, rfl, sz (by show 3 ≤ 100000; decide), fun p np => w p _ (s3.trans (Same.new np)) (s3.free np) upd_same⟩
  · intro v H1 h1
    exact ⟨v, rfl, .str "", rfl, .non, rfl, sz (by show 3 ≤ 100000; decide), fun p np => h1 p np⟩
end
section
variable {P : Program} {w : World} {K : PySem.W.Frag} {mg : Str → Option Value} {base : Heap} {a : Ad}
/-- what the law makes of a lambda: the tag and the field -/
def TTe (K : PySem.W.Frag) (a : Ad) : (XK → Hp → VK → Prop) → Hp → VK → Prop := fun tl H Q => TTo K a tl H (fun v H1 => ∃ i : Int, V.int 1 = .int i ∧ rSlT K v (some i) none H1 Q)
theorem tte_q {K : PySem.W.Frag} {H : Hp} {p : Addr} {x y z : V} {Q : VK} (hp : SqT K H p [x, y, z]) (w : ∀ c, H c = none → Q (.ref c) (upd H c (.tup [y, z]))) : ∃ i : Int, V.int 1 = .int i ∧ rSlT K (.ref p) (some i) none H Q :=
  ⟨1, rfl, p, _, rfl, hp, not_whole _ _, fun c nc => by rw [cut_one]; exact w c nc⟩
theorem giv2_l_outcome {X Y : Cx} {a : Ad} (T : Txt X.K X.mg a) (hK : Y.K = X.K) (hM : Y.mg = X.mg) {k : Nat} {q : Str} {cdv : Value} {N : List Str} (h : ∀ {Y : Cx}, Txt Y.K Y.mg a → LmN.Gives Y N "_law_outcome" (defScope s_l_outcome) a.f_l_outcome cdv (defBody s_l_outcome) "_law_ask" q (k + 1) (TTo Y.K a)) : LmN.Gives Y N "_law_outcome" (defScope s_l_outcome) a.f_l_outcome cdv (defBody s_l_outcome) "_law_ask" q (k + 1) (TTo X.K a) := by
  have z := h (Y := Y) (by rw [hK, hM]; exact T)
  rw [hK] at z
  exact z

theorem hnd_l_error {X : Cx} {a : Ad} (T : Txt X.K X.mg a) {q : Str} {cdv : Value} : LmN.Hands X ["_law_ask"] "_law_error" (defScope s_l_error) a.f_l_error cdv (defBody s_l_error) "_law_ask" "_law_outcome" q (TTo X.K a) (TTe X.K a) := by
  intro f c s H Q tl act hc h
  refine ⟨_, pss_one (ps_ret (pe_slice sl_tup (act _ _ _) (po_some pe_int) po_none)), ?_⟩
  exact ⟨rfl, hc, h⟩
end
section
variable {P : Program} {w : World} {K : PySem.W.Frag} {mg : Str → Option Value} {base : Heap} {a : Ad}
def sp_l_reduce (_ : PySem.W.Frag) : Sp := fun vs H Q _ => ∃ (n d : Int), vs = [.int n, .int d] ∧ d ≠ 0 ∧ d.natAbs < 2 ^ 8000 ∧ ∀ p, H p = none → Q (.ref p) (upd H p (.tup [.int (red n d).1, .int (red n d).2]))

theorem ok_l_reduce (T : Txt K mg a) : FnOk P w K mg base CX0 1 a.f_l_reduce a.fd_l_reduce ["_law_num", "_law_den"] (sp_l_reduce K) := by
  refine T.F_l_reduce.ok sc_l_reduce (fun vs H Q E h => ?_) (fun cdv A outer s H vs Q E hr h => ?_)
  · obtain ⟨n, d, rfl, _⟩ := h
    rfl
  · obtain ⟨n, d, rfl, hd, dB, w⟩ := h
    refine ⟨_, (pss_cons (ps_par (i := 2) (j := 3) (by rfl) sc_l_reduce.nd rfl rfl (by decide) rfl rfl (pa_cons (pe_callB call_abs (by rfl) T.n_abs (by decide +kernel) (pa_cons (pv 0) pa_nil)) (pa_cons (pe_callB call_abs (by rfl) T.n_abs (by decide +kernel) (pa_cons (pv 1) pa_nil)) pa_nil)) (by rfl))
          (pss_cons (ps_while PassesOwn.never (pt_cmpR op_ne (pv 3) pe_int (nomark _)) (pss_one (ps_par (i := 2) (j := 3) (by rfl) sc_l_reduce.nd rfl rfl (by decide) rfl rfl (pa_cons (pv 3) (pa_cons (pe_op op_mod (pv 2) (pv 3)) pa_nil)) (by rfl))))
          (pss_cons (ps_set (i := 4) sc_l_reduce.nd rfl (by first | exact Or.inl rfl | exact Or.inr rfl) (pe_ifExp (pt_cmpR op_gt (pv 1) pe_int (nomark _)) pe_int (pe_un un_neg pe_int)))
          (pss_one (ps_ret (pe_tup (pa_cons (pe_op op_fdivW (pe_op op_mul (pv 4) (pv 0)) (pv 2)) (pa_cons (pe_op op_fdivW (pe_op op_mul (pv 4) (pv 1)) (pv 2)) pa_nil)))))))), ?_⟩
    refine ⟨.int n, rfl, n, rfl, .int d, rfl, d, rfl, _, _, rfl, ?_⟩
    refine ⟨fun m σ H' => ∃ x y : Int, σ = [some (.int n), some (.int d), some (.int x), some (.int y), none] ∧ 0 ≤ x ∧ 0 ≤ y ∧ Int.gcd x y = Int.gcd n d ∧ m = y.toNat ∧ H' = H, ⟨_, _, _, rfl, ?_, ?_, ?_, rfl, rfl⟩, ?_⟩
    · split <;> omega
    · split <;> omega
    · rw [Int.gcd_eq_natAbs_gcd_natAbs, Int.gcd_eq_natAbs_gcd_natAbs]
      congr 1
      · split <;> omega
      · split <;> omega
    rintro m σ H' ⟨x, y, rfl, x0, y0, hg, rfl, hH⟩
    obtain rfl : H = H' := hH.symm
    refine ⟨.int y, rfl, rfl, _, rfl, ite2 (fun e => ?_) (fun e => ?_)⟩
    · have y1 : y ≠ 0 := fun z => by subst z; simp at e
      refine ⟨fun σ' H' => σ' = [some (.int n), some (.int d), some (.int y), some (.int (x % y)), none] ∧ H' = H, ?_, ?_⟩
      · rintro σ' H' ⟨rfl, rfl⟩
        have h1 : 0 ≤ x % y := Int.emod_nonneg _ y1
        have h2 : x % y < y := Int.emod_lt_of_pos _ (by omega)
        exact ⟨(x % y).toNat, by omega, y, x % y, rfl, y0, h1, by rw [gcd_step x0 y0]; exact hg, rfl, rfl⟩
      · exact ⟨.int y, rfl, .int x, rfl, .int y, rfl, x, y, rfl, rfl, (show (0 : Int) < y by omega), _, _, rfl, rfl, rfl⟩
    · have y1 : y = 0 := by
        by_cases z : y = 0
        · exact z
        · exfalso; apply e; simp [z]
      subst y1
      have hx : x = (Int.gcd n d : Int) := by
        rw [← hg, Int.gcd_zero_right]
        omega
      have hp : 0 < x := by rw [hx]; exact gcd_posI hd
      have hB : x.natAbs < 2 ^ 8000 := by
        refine Nat.lt_of_le_of_lt ?_ dB
        have : Int.gcd n d ∣ d.natAbs := Nat.gcd_dvd_right _ _
        have := Nat.le_of_dvd (by omega) this
        omega
      have hdiv : ∀ i, CDivW i x := fun i => wide_div (b := 8000) hp hB (by decide) (by decide)
      refine ⟨.int d, rfl, d, 0, rfl, rfl, _, rfl, ?_⟩
      have fin : ∀ s : Int, s = 1 ∨ s = -1 → s = (if d > 0 then 1 else -1) → (tRet (tTup (tCons (tOp (rI CDivW fun i j => .int (i / j)) (tOp (rI CMul fun i j => .int (i * j)) (tVar 4) (tVar 0)) (tVar 2)) (tCons (tOp (rI CDivW fun i j => .int (i / j)) (tOp (rI CMul fun i j => .int (i * j)) (tVar 4) (tVar 1)) (tVar 2)) tNil)))) { nx := fun _ H' => Q .non H', rt := Q } [some (.int n), some (.int d), some (.int x), some (.int 0), some (.int s)] H := by
        intro s hs es
        refine ⟨.int s, rfl, .int n, rfl, s, n, rfl, rfl, .inl ⟨by omega, by omega⟩, .int x, rfl, _, x, rfl, rfl, hdiv _, .int s, rfl, .int d, rfl, s, d, rfl, rfl, .inl ⟨by omega, by omega⟩, .int x, rfl, _, x, rfl, rfl, hdiv _, sz (by show 2 ≤ 100000; decide), fun p np => ?_⟩
        have z := w p np
        unfold red at z
        rw [← hx, ← es] at z
        exact z
      refine ite2 (fun e2 => ?_) (fun e2 => ?_)
      · exact fin 1 (.inl rfl) (by rw [if_pos (show d > 0 from of_decide_eq_true e2)])
      · refine ⟨1, rfl, ?_⟩
        exact fin (-1) (.inr rfl) (by rw [if_neg (show ¬ d > 0 from fun z => e2 (decide_eq_true z))])
end
section
variable {P : Program} {w : World} {K : PySem.W.Frag} {mg : Str → Option Value} {base : Heap} {a : Ad}
def sp_l_add (K : PySem.W.Frag) : Sp := spAddR K

theorem ok_l_add (T : Txt K mg a) : FnOk P w K mg base CX0 2 a.f_l_add a.fd_l_add ["_law_one", "_law_other"] (sp_l_add K) := by
  have G_l_reduce := ok_l_reduce (P := P) (w := w) (base := base) T
  refine T.F_l_add.ok sc_l_add (fun vs H Q E h => ?_) (fun cdv A outer s H vs Q E hr h => ?_)
  · obtain ⟨v1, v2, x, y, rfl, _⟩ := h
    rfl
  · obtain ⟨v1, v2, qx, qy, rfl, f1, f2, w⟩ := h
    replace w : ∀ p, H p = none → Q (.ref p) (upd H p (.tup [.int (radd (ofR qx) (ofR qy)).1, .int (radd (ofR qx) (ofR qy)).2])) := by rw [radd_R]; exact w
    replace f1 : FrB K H v1 (ofR qx).1 (ofR qx).2 3900 := f1
    replace f2 : FrB K H v2 (ofR qy).1 (ofR qy).2 3900 := f2
    generalize ofR qx = x at f1 w
    generalize ofR qy = y at f2 w
    refine ⟨_, (pss_one (ps_ret (pe_call G_l_reduce (hr.mono (by first | decide | omega)) (by rfl) T.g_l_reduce T.F_l_reduce.kp T.b_l_reduce .nil pass0 (pa_cons (pe_op op_add (pe_op op_mulW (pe_ix ix_tup (pv 0) pe_int (fun _ _ => rfl)) (pe_ix ix_tup (pv 1) pe_int (fun _ _ => rfl))) (pe_op op_mulW (pe_ix ix_tup (pv 1) pe_int (fun _ _ => rfl)) (pe_ix ix_tup (pv 0) pe_int (fun _ _ => rfl)))) (pa_cons (pe_op op_mulW (pe_ix ix_tup (pv 0) pe_int (fun _ _ => rfl)) (pe_ix ix_tup (pv 1) pe_int (fun _ _ => rfl))) pa_nil))))), ?_⟩
    obtain ⟨p, rfl, hp⟩ := f1.fr
    obtain ⟨q, rfl, hq⟩ := f2.fr
    have cm : ∀ {i j : Int}, i.natAbs < 2 ^ 3900 → j.natAbs < 2 ^ 3900 → CMulW i j := fun a b => mulW a b (by decide) (by decide)
    refine ⟨.ref p, rfl, p, _, 0, _, rfl, rfl, hp, rfl, .ref q, rfl, q, _, 1, _, rfl, rfl, hq, rfl, x.1, y.2, rfl, rfl, cm f1.nB f2.dB, .ref q, rfl, q, _, 0, _, rfl, rfl, hq, rfl, .ref p, rfl, p, _, 1, _, rfl, rfl, hp, rfl, y.1, x.2, rfl, rfl, cm f2.nB f1.dB, _, _, rfl, rfl, ?_⟩
    refine ⟨.ref p, rfl, p, _, 1, _, rfl, rfl, hp, rfl, .ref q, rfl, q, _, 1, _, rfl, rfl, hq, rfl, x.2, y.2, rfl, rfl, cm f1.dB f2.dB, _, _, rfl, pos_ne f1.d0 f2.d0, ?_, fun r nr => w r nr⟩
    rw [Int.natAbs_mul]
    exact Nat.lt_of_lt_of_le (Nat.mul_lt_mul'' f1.dB f2.dB) (by rw [← Nat.pow_add]; exact Nat.pow_le_pow_right (by decide) (by decide))
end
section
variable {P : Program} {w : World} {K : PySem.W.Frag} {mg : Str → Option Value} {base : Heap} {a : Ad}
def sp_l_multiply (K : PySem.W.Frag) : Sp := spMulR K

theorem ok_l_multiply (T : Txt K mg a) : FnOk P w K mg base CX0 2 a.f_l_multiply a.fd_l_multiply ["_law_one", "_law_other"] (sp_l_multiply K) := by
  have G_l_reduce := ok_l_reduce (P := P) (w := w) (base := base) T
  refine T.F_l_multiply.ok sc_l_multiply (fun vs H Q E h => ?_) (fun cdv A outer s H vs Q E hr h => ?_)
  · obtain ⟨v1, v2, x, y, rfl, _⟩ := h
    rfl
  · obtain ⟨v1, v2, qx, qy, rfl, f1, f2, w⟩ := h
    replace w : ∀ p, H p = none → Q (.ref p) (upd H p (.tup [.int (red ((ofR qx).1 * (ofR qy).1) ((ofR qx).2 * (ofR qy).2)).1, .int (red ((ofR qx).1 * (ofR qy).1) ((ofR qx).2 * (ofR qy).2)).2])) := by rw [show red ((ofR qx).1 * (ofR qy).1) ((ofR qx).2 * (ofR qy).2) = ofR (qx * qy) from rmul_R qx qy]; exact w
    replace f1 : FrB K H v1 (ofR qx).1 (ofR qx).2 3900 := f1
    replace f2 : FrB K H v2 (ofR qy).1 (ofR qy).2 3900 := f2
    generalize ofR qx = x at f1 w
    generalize ofR qy = y at f2 w
    refine ⟨_, (pss_one (ps_ret (pe_call G_l_reduce (hr.mono (by first | decide | omega)) (by rfl) T.g_l_reduce T.F_l_reduce.kp T.b_l_reduce .nil pass0 (pa_cons (pe_op op_mulW (pe_ix ix_tup (pv 0) pe_int (fun _ _ => rfl)) (pe_ix ix_tup (pv 1) pe_int (fun _ _ => rfl))) (pa_cons (pe_op op_mulW (pe_ix ix_tup (pv 0) pe_int (fun _ _ => rfl)) (pe_ix ix_tup (pv 1) pe_int (fun _ _ => rfl))) pa_nil))))), ?_⟩
    obtain ⟨p, rfl, hp⟩ := f1.fr
    obtain ⟨q, rfl, hq⟩ := f2.fr
    have cm : ∀ {i j : Int}, i.natAbs < 2 ^ 3900 → j.natAbs < 2 ^ 3900 → CMulW i j := fun a b => mulW a b (by decide) (by decide)
    refine ⟨.ref p, rfl, p, _, 0, _, rfl, rfl, hp, rfl, .ref q, rfl, q, _, 0, _, rfl, rfl, hq, rfl, x.1, y.1, rfl, rfl, cm f1.nB f2.nB, ?_⟩
    refine ⟨.ref p, rfl, p, _, 1, _, rfl, rfl, hp, rfl, .ref q, rfl, q, _, 1, _, rfl, rfl, hq, rfl, x.2, y.2, rfl, rfl, cm f1.dB f2.dB, _, _, rfl, pos_ne f1.d0 f2.d0, ?_, fun r nr => w r nr⟩
    rw [Int.natAbs_mul]
    exact Nat.lt_of_lt_of_le (Nat.mul_lt_mul'' f1.dB f2.dB) (by rw [← Nat.pow_add]; exact Nat.pow_le_pow_right (by decide) (by decide))
end
section
variable {P : Program} {w : World} {K : PySem.W.Frag} {mg : Str → Option Value} {base : Heap} {a : Ad}
def sp_l_sum (K : PySem.W.Frag) : Sp := fun vs H Q _ => ∃ (p : Addr) (xs : List V) (qs : List Rat) (B : Nat), vs = [.ref p] ∧ SqL K H p xs ∧ FRs K H xs qs B ∧ 1 + xs.length * (B + 1) ≤ 3900 ∧ ∀ v H', Same H H' → FR K H' v (qs.foldl (· + ·) 0) (1 + xs.length * (B + 1)) → Q v H'

theorem ok_l_sum (T : Txt K mg a) : FnOk P w K mg base CX0 3 a.f_l_sum a.fd_l_sum ["_law_some"] (sp_l_sum K) := by
  have G_l_add := ok_l_add (P := P) (w := w) (base := base) T
  refine T.F_l_sum.ok sc_l_sum (fun vs H Q E h => ?_) (fun cdv A outer s H vs Q E hr h => ?_)
  · obtain ⟨p, xs, qs, B, rfl, _⟩ := h
    rfl
  · obtain ⟨p, xs, qs, B, rfl, hS, hF, hl, w⟩ := h
    refine ⟨_, (pss_cons (ps_set (i := 1) sc_l_sum.nd rfl (by first | exact Or.inl rfl | exact Or.inr rfl) (pe_tup (pa_cons pe_int (pa_cons pe_int pa_nil))))
          (pss_cons (ps_for PassesOwn.never rfl (pi_list (pv 0)) (pg_name (i := 2) sc_l_sum.nd rfl (by first | exact Or.inl rfl | exact Or.inr rfl)) (pss_one (ps_set (i := 1) sc_l_sum.nd rfl (by first | exact Or.inl rfl | exact Or.inr rfl) (pe_call G_l_add (hr.mono (by first | decide | omega)) (by rfl) T.g_l_add T.F_l_add.kp T.b_l_add .nil pass0 (pa_cons (pv 1) (pa_cons (pv 2) pa_nil))))))
          (pss_one (ps_ret (pv 1))))), ?_⟩
    refine ⟨sz (by show 2 ≤ 100000; decide), fun z0 nz0 => ?_⟩
    have s0 := Same.new (o := .tup [.int 0, .int 1]) nz0
    have f0 : FR K (upd H z0 (.tup [.int 0, .int 1])) (.ref z0) 0 1 := fr_zero (SqT.of upd_same)
    have hl' := hF.len
    refine ⟨.ref p, rfl, p, rfl, ⟨_, s0.seq hS⟩, for_list (K := K) (a := p) (xs := xs) (fun i σ H' => ∃ v y, σ = [some (.ref p), some v, y] ∧ Same H H' ∧ FR K H' v ((qs.take i).foldl (· + ·) 0) (1 + i * (B + 1))) ⟨_, none, rfl, s0, by rw [Nat.zero_mul]; exact f0⟩ (fun i σ H' _ ⟨_, _, _, s1, _⟩ => s1.seq hS) ?_ ?_⟩
    · rintro i x σ H1 hx ⟨v, y, rfl, s1, fv⟩
      have hi : i < xs.length := (List.getElem?_eq_some_iff.mp hx).1
      obtain ⟨q, hq, fq⟩ := hF.get hx
      have m1 : (i + 1) * (B + 1) ≤ xs.length * (B + 1) := Nat.mul_le_mul_right _ hi
      rw [Nat.add_mul, Nat.one_mul] at m1
      refine ⟨v, rfl, x, rfl, v, x, _, q, rfl, fv.up (by omega), (fq.same s1).up (by omega), fun r nr => ⟨_, _, rfl, s1.trans (Same.new nr), ?_⟩⟩
      rw [sum_more hq]
      exact FR.new ((fv.bt.add fq.bt).up (by rw [Nat.add_mul (n := i)]; omega))
    · rintro σ H1 ⟨v, y, rfl, s1, fv⟩
      rw [hl', List.take_length, ← hl'] at fv
      exact ⟨v, rfl, w v H1 s1 fv⟩
end
section
variable {P : Program} {w : World} {K : PySem.W.Frag} {mg : Str → Option Value} {base : Heap} {a : Ad}
def sp_l_small (K : PySem.W.Frag) : Sp := fun vs H Q _ => ∃ (r : Addr), vs = [.ref r] ∧ Rg H r ∧ ∀ v H' n d, Kp r H H' → Rg H' r → FrB K H' v n d 5 → Q v H'

theorem ok_l_small (T : Txt K mg a) : FnOk P w K mg base CX0 3 a.f_l_small a.fd_l_small ["_law_rng"] (sp_l_small K) := by
  have G_l_reduce := ok_l_reduce (P := P) (w := w) (base := base) T
  have G_l_choice := ok_l_choice (P := P) (w := w) (base := base) T
  have G_l_draw := ok_l_draw (P := P) (w := w) (base := base) T
  refine T.F_l_small.ok sc_l_small (fun vs H Q E h => ?_) (fun cdv A outer s H vs Q E hr h => ?_)
  · obtain ⟨r, rfl, _⟩ := h
    rfl
  · obtain ⟨r, rfl, R, w⟩ := h
    refine ⟨_, (pss_one (ps_ret (pe_call G_l_reduce (hr.mono (by first | decide | omega)) (by rfl) T.g_l_reduce T.F_l_reduce.kp T.b_l_reduce .nil pass0 (pa_cons (pe_op op_sub (pe_call G_l_draw (hr.mono (by first | decide | omega)) (by rfl) T.g_l_draw T.F_l_draw.kp T.b_l_draw .nil pass0 (pa_cons (pv 0) (pa_cons pe_int pa_nil))) pe_int) (pa_cons (pe_call G_l_choice (hr.mono (by first | decide | omega)) (by rfl) T.g_l_choice T.F_l_choice.kp T.b_l_choice .nil pass0 (pa_cons (pv 0) (pa_cons (pe_lst (pa_cons pe_int (pa_cons pe_int (pa_cons pe_int (pa_cons pe_int (pa_cons pe_int (pa_cons pe_int pa_nil))))))) pa_nil))) pa_nil))))), ?_⟩
    refine ⟨.ref r, rfl, r, 25, rfl, R, by decide, by decide, fun v H1 v0 v1 k1 R1 => ?_⟩
    refine ⟨_, _, rfl, rfl, .ref r, rfl, sz (by show 6 ≤ 100000; decide), fun l nl => ?_⟩
    have R2 : Rg (upd H1 l (.lst [.int 1, .int 1, .int 1, .int 2, .int 3, .int 4])) r := R1.same (Same.new nl)
    refine ⟨r, .ref l, _, rfl, R2, .inl ⟨l, rfl, R1.ne nl, .inl (SqL.of upd_same)⟩, by show 0 < 6; decide, by show 6 ≤ 100000; decide, fun x hx H2 k2 R3 => ?_⟩
    obtain ⟨j, rfl, j0, j1⟩ : ∃ j : Int, x = .int j ∧ 0 < j ∧ j < 32 := by
      simp only [List.mem_cons, List.not_mem_nil, or_false] at hx
      rcases hx with h | h | h | h | h | h
      · exact ⟨1, h, by decide, by decide⟩
      · exact ⟨1, h, by decide, by decide⟩
      · exact ⟨1, h, by decide, by decide⟩
      · exact ⟨2, h, by decide, by decide⟩
      · exact ⟨3, h, by decide, by decide⟩
      · exact ⟨4, h, by decide, by decide⟩
    have hB : (2 : Nat) ^ 5 = 32 := by decide
    refine ⟨v - 8, j, rfl, by omega, Nat.lt_of_lt_of_le (show j.natAbs < 2 ^ 5 by omega) (Nat.pow_le_pow_right (by decide) (by decide)), fun p np => ?_⟩
    have k3 := k1.trans ((Kp.of (Same.new nl)).trans k2)
    exact w _ _ _ _ (k3.trans (Kp.of (Same.new np))) (R3.same (Same.new np)) (red_B (by omega) (by omega) (by omega))
end
section
variable {P : Program} {w : World} {K : PySem.W.Frag} {mg : Str → Option Value} {base : Heap} {a : Ad}
theorem ixN_nat {n j : Nat} {i : Int} (e : i = (j : Int)) (h : j < n) : ixN n i = some j := by
  subst e
  unfold ixN
  rw [if_pos (by omega), if_pos (by omega), show ((j : Nat) : Int).toNat = j by omega]
theorem FOf.get {K : PySem.W.Frag} {H : Hp} {B : Nat} {xs : List V} (h : FOf K H B xs) {i : Nat} {x : V} (hx : xs[i]? = some x) : ∃ q, FR K H x q B := h x (List.mem_of_getElem? hx)
def sp_l_linear_case (K : PySem.W.Frag) : Sp := fun vs H Q _ => ∃ (r : Addr), vs = [.ref r] ∧ Rg H r ∧ ∀ (t rl tl : Addr) (xs ys : List V) (w : Nat) (H' : Hp), Kp r H H' → Rg H' r → SqT K H' t [.ref rl, .ref tl] → rl ≠ r → tl ≠ r → H' rl = some (.lst xs) → H' tl = some (.lst ys) → xs.length = ys.length → 1 ≤ xs.length → xs.length ≤ 5 → 1 ≤ w → w ≤ 5 → (∀ x ∈ xs, VecAt K H' 60 w [r, rl] x) → FOf K H' 500 ys → Q (.ref t) H'

theorem ok_l_linear_case (T : Txt K mg a) : FnOk P w K mg base CX0 4 a.f_l_linear_case a.fd_l_linear_case ["_law_rng"] (sp_l_linear_case K) := by
  have G_l_small := ok_l_small (P := P) (w := w) (base := base) T
  have G_l_sum := ok_l_sum (P := P) (w := w) (base := base) T
  have G_l_draw := ok_l_draw (P := P) (w := w) (base := base) T
  have G_l_choice := ok_l_choice (P := P) (w := w) (base := base) T
  have G_l_add := ok_l_add (P := P) (w := w) (base := base) T
  have G_l_multiply := ok_l_multiply (P := P) (w := w) (base := base) T
  refine T.F_l_linear_case.ok sc_l_linear_case (fun vs H Q E h => ?_) (fun cdv A outer s H vs Q E hr h => ?_)
  · obtain ⟨r, rfl, _⟩ := h
    rfl
  · obtain ⟨r, rfl, R, w⟩ := h
    refine ⟨_, (pss_cons (ps_asg (pe_tup (pa_cons (pe_op op_add pe_int (pe_call G_l_draw (hr.mono (by first | decide | omega)) (by rfl) T.g_l_draw T.F_l_draw.kp T.b_l_draw .nil pass0 (pa_cons (pv 0) (pa_cons pe_int pa_nil)))) (pa_cons (pe_op op_add pe_int (pe_call G_l_draw (hr.mono (by first | decide | omega)) (by rfl) T.g_l_draw T.F_l_draw.kp T.b_l_draw .nil pass0 (pa_cons (pv 0) (pa_cons pe_int pa_nil)))) pa_nil))) (pg_tup rfl (pgs_cons (pg_name (i := 1) sc_l_linear_case.nd rfl (by first | exact Or.inl rfl | exact Or.inr rfl)) (pgs_cons (pg_name (i := 2) sc_l_linear_case.nd rfl (by first | exact Or.inl rfl | exact Or.inr rfl)) pgs_nil))))
          (pss_cons (ps_setLc (i := 3) (own := [("_law_j", 7)]) (g := gName 7) rfl sc_l_linear_case.nd rfl rfl (sw_true rfl rfl rfl (by decide +kernel)) (pi_range1 (by rfl) T.n_range (pa_cons (pv 1) pa_nil)) (blkOk_by (own := [("_law_j", 7)]) (N := ["_law_rng", "_law_quantity", "_law_wide", "_law_rows", "_law_amount", "_law_met", "_law_targets", "_law_j", "_law_k", "_law_x", "_law_y", "_law_row"]) (sc := defScope s_l_linear_case) (by decide +kernel)) (fun _ _ _ _ _ => (pg_name (i := 7) sc_l_linear_case.nd rfl (Or.inl rfl))) (fun _ _ _ _ _ => pts_nil) (fun _ _ _ _ _ => (pe_lc (own := [("_law_k", 8)]) (g := gName 8) rfl sc_l_linear_case.nd (pi_range1 (by rfl) T.n_range (pa_cons (pv 2) pa_nil)) (blkOk_by (own := [("_law_k", 8)]) (N := ["_law_rng", "_law_quantity", "_law_wide", "_law_rows", "_law_amount", "_law_met", "_law_targets", "_law_j", "_law_k", "_law_x", "_law_y", "_law_row"]) (by kernel_rfl)) (fun _ _ _ _ _ => (pg_name (i := 8) sc_l_linear_case.nd rfl (Or.inl rfl))) (fun _ _ _ _ _ => pts_nil) (fun _ _ _ _ _ => (pe_call G_l_choice (hr.mono (by first | decide | omega)) (by rfl) T.g_l_choice T.F_l_choice.kp T.b_l_choice .nil pass0 (pa_cons (pv 0) (pa_cons (pe_lst (pa_cons (pe_tup (pa_cons pe_int (pa_cons pe_int pa_nil))) (pa_cons (pe_call G_l_small (hr.mono (by first | decide | omega)) (by rfl) T.g_l_small T.F_l_small.kp T.b_l_small .nil pass0 (pa_cons (pv 0) pa_nil)) pa_nil))) pa_nil)))))))
          (pss_cons (ps_if (PW.pt (pw_and (pt_cmpR op_gt (pv 1) pe_int (nomark _)) (pw_and1 (pt_cmpR op_eq (pe_call G_l_draw (hr.mono (by first | decide | omega)) (by rfl) T.g_l_draw T.F_l_draw.kp T.b_l_draw .nil pass0 (pa_cons (pv 0) (pa_cons pe_int pa_nil))) pe_int (nomark _))))) (pss_cons (ps_set (i := 4) sc_l_linear_case.nd rfl (by first | exact Or.inl rfl | exact Or.inr rfl) (pe_call G_l_small (hr.mono (by first | decide | omega)) (by rfl) T.g_l_small T.F_l_small.kp T.b_l_small .nil pass0 (pa_cons (pv 0) pa_nil)))
          (pss_one (ps_asg (pe_lc (own := [("_law_x", 9), ("_law_y", 10)]) (g := gTup K 2 (gCons (gName 9) (gCons (gName 10) gNil))) rfl sc_l_linear_case.nd (RZ.pi_zipA (by rfl) T.n_zip (pa_cons (pe_ix ix_list (pv 3) pe_int (fun _ _ => rfl)) (pa_cons (pe_ix ix_list (pv 3) (pe_op op_sub (pv 1) pe_int) (fun _ _ => rfl)) pa_nil))) (blkOk_by (own := [("_law_x", 9), ("_law_y", 10)]) (N := ["_law_rng", "_law_quantity", "_law_wide", "_law_rows", "_law_amount", "_law_met", "_law_targets", "_law_j", "_law_k", "_law_x", "_law_y", "_law_row"]) (sc := defScope s_l_linear_case) (by decide +kernel)) (fun _ _ _ _ _ => (pg_tup rfl (pgs_cons (pg_name (i := 9) sc_l_linear_case.nd rfl (Or.inl rfl)) (pgs_cons (pg_name (i := 10) sc_l_linear_case.nd rfl (Or.inl rfl)) pgs_nil)))) (fun _ _ _ _ _ => pts_nil) (fun _ _ _ _ _ => (pe_call G_l_add (hr.mono (by first | decide | omega)) (by rfl) T.g_l_add T.F_l_add.kp T.b_l_add .nil pass0 (pa_cons (pv 9) (pa_cons (pe_call G_l_multiply (hr.mono (by first | decide | omega)) (by rfl) T.g_l_multiply T.F_l_multiply.kp T.b_l_multiply .nil pass0 (pa_cons (pv 4) (pa_cons (pv 10) pa_nil))) pa_nil))))) (pg_sub (pv 3) (pe_call G_l_draw (hr.mono (by first | decide | omega)) (by rfl) T.g_l_draw T.F_l_draw.kp T.b_l_draw .nil pass0 (pa_cons (pv 0) (pa_cons (pv 1) pa_nil))) set_list)))) pss_nil)
          (pss_cons (ps_set (i := 5) sc_l_linear_case.nd rfl (by first | exact Or.inl rfl | exact Or.inr rfl) (pe_lc (own := [("_law_k", 8)]) (g := gName 8) rfl sc_l_linear_case.nd (pi_range1 (by rfl) T.n_range (pa_cons (pv 2) pa_nil)) (blkOk_by (own := [("_law_k", 8)]) (N := ["_law_rng", "_law_quantity", "_law_wide", "_law_rows", "_law_amount", "_law_met", "_law_targets", "_law_j", "_law_k", "_law_x", "_law_y", "_law_row"]) (sc := defScope s_l_linear_case) (by decide +kernel)) (fun _ _ _ _ _ => (pg_name (i := 8) sc_l_linear_case.nd rfl (Or.inl rfl))) (fun _ _ _ _ _ => pts_nil) (fun _ _ _ _ _ => (pe_call G_l_small (hr.mono (by first | decide | omega)) (by rfl) T.g_l_small T.F_l_small.kp T.b_l_small .nil pass0 (pa_cons (pv 0) pa_nil)))))
          (pss_cons (ps_setLc (i := 6) (own := [("_law_row", 11)]) (g := gName 11) rfl sc_l_linear_case.nd rfl rfl (sw_true rfl rfl rfl (by decide +kernel)) (pi_list (pv 3)) (blkOk_by (own := [("_law_row", 11)]) (N := ["_law_rng", "_law_quantity", "_law_wide", "_law_rows", "_law_amount", "_law_met", "_law_targets", "_law_j", "_law_k", "_law_x", "_law_y", "_law_row"]) (sc := defScope s_l_linear_case) (by decide +kernel)) (fun _ _ _ _ _ => (pg_name (i := 11) sc_l_linear_case.nd rfl (Or.inl rfl))) (fun _ _ _ _ _ => pts_nil) (fun _ _ _ _ _ => (pe_call G_l_sum (hr.mono (by first | decide | omega)) (by rfl) T.g_l_sum T.F_l_sum.kp T.b_l_sum .nil pass0 (pa_cons (pe_lc (own := [("_law_x", 9), ("_law_y", 10)]) (g := gTup K 2 (gCons (gName 9) (gCons (gName 10) gNil))) rfl sc_l_linear_case.nd (zipAK (K := K) rfl (by rfl) T.n_zip (pa_cons (pv 11) (pa_cons (pv 5) pa_nil))) (blkOk_by (own := [("_law_x", 9), ("_law_y", 10)]) (N := ["_law_rng", "_law_quantity", "_law_wide", "_law_rows", "_law_amount", "_law_met", "_law_targets", "_law_j", "_law_k", "_law_x", "_law_y", "_law_row"]) (by kernel_rfl)) (fun _ _ _ _ _ => (pg_tup rfl (pgs_cons (pg_name (i := 9) sc_l_linear_case.nd rfl (Or.inl rfl)) (pgs_cons (pg_name (i := 10) sc_l_linear_case.nd rfl (Or.inl rfl)) pgs_nil)))) (fun _ _ _ _ _ => pts_nil) (fun _ _ _ _ _ => (pe_call G_l_multiply (hr.mono (by first | decide | omega)) (by rfl) T.g_l_multiply T.F_l_multiply.kp T.b_l_multiply .nil pass0 (pa_cons (pv 9) (pa_cons (pv 10) pa_nil))))) pa_nil))))
          (pss_cons (ps_if (pt_cmpR op_eq (pe_call G_l_draw (hr.mono (by first | decide | omega)) (by rfl) T.g_l_draw T.F_l_draw.kp T.b_l_draw .nil pass0 (pa_cons (pv 0) (pa_cons pe_int pa_nil))) pe_int (nomark _)) (pss_one (ps_asg (pe_call G_l_small (hr.mono (by first | decide | omega)) (by rfl) T.g_l_small T.F_l_small.kp T.b_l_small .nil pass0 (pa_cons (pv 0) pa_nil)) (pg_sub (pv 6) (pe_call G_l_draw (hr.mono (by first | decide | omega)) (by rfl) T.g_l_draw T.F_l_draw.kp T.b_l_draw .nil pass0 (pa_cons (pv 0) (pa_cons (pv 1) pa_nil))) set_list))) pss_nil)
          (pss_one (ps_ret (pe_tup (pa_cons (pv 3) (pa_cons (pv 6) pa_nil))))))))))), ?_⟩
    refine ⟨.ref r, rfl, r, 5, rfl, R, by decide, by decide, fun d1 H1 d10 d11 k1 R1 => ⟨1, d1, rfl, rfl, ?_⟩⟩
    refine ⟨.ref r, rfl, r, 5, rfl, R1, by decide, by decide, fun d2 H2 d20 d21 k2 R2 => ⟨1, d2, rfl, rfl, ?_⟩⟩
    refine ⟨sz (by show 2 ≤ 100000; decide), fun tp ntp => ⟨tp, _, rfl, SqT.of upd_same, rfl, _, _, rfl, _, _, rfl, rfl, ?_⟩⟩
    have sP := Same.new (o := .tup [.int (1 + d1), .int (1 + d2)]) ntp
    have R3 := R2.same sP
    have k03 := (k1.trans k2).trans (Kp.of sP)
    generalize upd H2 tp (.tup [.int (1 + d1), .int (1 + d2)]) = H3 at *
    have e1 : (1 : Int) + d1 = ((1 + d1.toNat : Nat) : Int) := by omega
    have e2 : (1 : Int) + d2 = ((1 + d2.toNat : Nat) : Int) := by omega
    dsimp only
    rw [e1, e2]
    generalize hq : 1 + d1.toNat = q
    generalize hwd : 1 + d2.toNat = wd
    have q1 : 1 ≤ q ∧ q ≤ 5 := by omega
    have w1 : 1 ≤ wd ∧ wd ≤ 5 := by omega
    clear hq hwd e1 e2 ntp sP R1 R2 k1 k2 d10 d11 d20 d21
    -- the rows
    refine ⟨.int (q : Nat), rfl, (q : Int), rfl, by omega, by omega, fun D nD => ?_⟩
    have Dr : D ≠ r := R3.ne nD
    refine ⟨fun i m H4 => i + m = q ∧ Kp r H3 H4 ∧ Rg H4 r ∧ ∃ xs, H4 D = some (.lst xs) ∧ xs.length = i ∧ ∀ x ∈ xs, VecAt K H4 20 wd [r, D] x, ⟨q, by omega, Kp.of (Same.new nD), R3.same (Same.new nD), [], upd_same, rfl, fun j hj => by cases hj⟩, fun i m H4 hW => ?_⟩
    obtain ⟨em, k4, R4, xs, hD, xl, hX⟩ := hW
    by_cases hlt : i < q
    · refine .inr ⟨(show i < ((q : Nat) : Int).toNat by omega), fun H5 => Kp r H3 H5 ∧ Rg H5 r ∧ ∃ xs, H5 D = some (.lst xs) ∧ xs.length = i + 1 ∧ ∀ x ∈ xs, VecAt K H5 20 wd [r, D] x, fun H5 hN => ⟨m - 1, by omega, by omega, hN⟩, fun v H5 hy => ?_⟩
      obtain ⟨rfl, rfl⟩ := hy
      refine ⟨rfl, tYes_if ?_⟩
      refine ⟨.int (wd : Nat), rfl, (wd : Int), rfl, by omega, by omega, fun D2 nD2 => ?_⟩
      have D2r : D2 ≠ r := R4.ne nD2
      have DD2 : D ≠ D2 := ne_of_none hD nD2
      refine ⟨fun j m' H6 => j + m' = wd ∧ Kp r H5 H6 ∧ Rg H6 r ∧ ∃ zs, H6 D2 = some (.lst zs) ∧ zs.length = j ∧ FOf K H6 20 zs, ⟨wd, by omega, Kp.of (Same.new nD2), R4.same (Same.new nD2), [], upd_same, rfl, FOf.nil⟩, fun j m' H6 hW => ?_⟩
      obtain ⟨em', k6, R6, zs, hD6, zl, hZ⟩ := hW
      by_cases hjt : j < wd
      · refine .inr ⟨(show j < ((wd : Nat) : Int).toNat by omega), fun H7 => Kp r H5 H7 ∧ Rg H7 r ∧ ∃ zs, H7 D2 = some (.lst zs) ∧ zs.length = j + 1 ∧ FOf K H7 20 zs, fun H7 hN => ⟨m' - 1, by omega, by omega, hN⟩, fun v H7 hy => ?_⟩
        obtain ⟨rfl, rfl⟩ := hy
        refine ⟨rfl, tYes_if ?_⟩
        refine ⟨.ref r, rfl, sz (by show 2 ≤ 100000; decide), fun z0 nz0 => ?_⟩
        have s0 := Same.new (o := .tup [.int 0, .int 1]) nz0
        have f0 : FR K (upd H7 z0 (.tup [.int 0, .int 1])) (.ref z0) 0 1 := fr_zero (SqT.of upd_same)
        refine ⟨.ref r, rfl, r, rfl, R6.same s0, fun fv H8 n5 d5 k8 R8 f5 => ⟨sz (by show 2 ≤ 100000; decide), fun cl ncl => ?_⟩⟩
        have sc := Same.new (o := .lst [.ref z0, fv]) ncl
        have f0' := (f0.kp (R6.same s0) k8).same sc
        have f5' := (FR.of' f5).same sc
        have R9 := R8.same sc
        refine ⟨r, .ref cl, _, rfl, R9, .inl ⟨cl, rfl, R8.ne ncl, .inl (SqL.of upd_same)⟩, by show 0 < 2; decide, by show 2 ≤ 100000; decide, fun y hy H9 k9 RA => ?_⟩
        have hyf : ∃ q, FR K H9 y q 20 := by
          simp only [List.mem_cons, List.not_mem_nil, or_false] at hy
          rcases hy with rfl | rfl
          · exact ⟨_, (f0'.kp R9 k9).up (by decide)⟩
          · exact ⟨_, (f5'.kp R9 k9).up (by decide)⟩
        obtain ⟨qy, fy⟩ := hyf
        have k69 : Kp r H7 H9 := ((Kp.of s0).trans k8).trans ((Kp.of sc).trans k9)
        have hD9 := k69.1 _ _ D2r hD6
        refine ⟨zs, hD9, szl (by omega), (k6.trans k69).put (H := H5) nD2 D2r, R4.put nD2 (k6.trans k69) RA, zs ++ [y], upd_same, by rw [List.length_append, zl]; rfl, ?_⟩
        exact ((hZ.kp R6 k69).put hD9).snoc (fy.put hD9)
      · have ej : j = wd := by omega
        subst ej
        refine .inl ⟨(show ((j : Nat) : Int).toNat ≤ j by omega), ?_⟩
        have hD6' := k6.1 _ _ Dr hD
        refine ⟨xs, hD6', szl (by omega), (k4.trans k6).put (H := H3) nD Dr, R3.put nD (k4.trans k6) R6, xs ++ [.ref D2], upd_same, by rw [List.length_append, xl]; rfl, fun x hx => ?_⟩
        rcases List.mem_append.mp hx with h | h
        · exact ((hX x h).kp R4 k6 List.mem_cons_self).put hD6' (List.mem_cons_of_mem _ List.mem_cons_self)
        · rw [List.mem_singleton.mp h]
          refine VecAt.put ⟨D2, zs, rfl, ?_, hD6, zl, hZ⟩ hD6' (List.mem_cons_of_mem _ List.mem_cons_self)
          intro hm
          rcases List.mem_cons.mp hm with e | e
          · exact D2r e
          · exact DD2 (List.mem_singleton.mp e).symm
    have ei : i = q := by omega
    subst ei
    refine .inl ⟨(show ((i : Nat) : Int).toNat ≤ i by omega), ?_⟩
    clear hlt em
    -- a row that depends on others
    dsimp only
    refine go_if3 (fun σ H' => ∃ xs y4, σ = [some (.ref r), some (.int (i : Nat)), some (.int (wd : Nat)), some (.ref D), y4, none, none, none, none, none, none, none] ∧ Kp r H3 H' ∧ Rg H' r ∧ H' D = some (.lst xs) ∧ xs.length = i ∧ ∀ x ∈ xs, VecAt K H' 60 wd [r, D] x) ?_ (fun DE hDE => ?_)
    rotate_left
    · have hX60 : ∀ x ∈ xs, VecAt K H4 60 wd [r, D] x := fun x hx => (hX x hx).up (by decide)
      have same : DE.nx [some (.ref r), some (.int (i : Nat)), some (.int (wd : Nat)), some (.ref D), none, none, none, none, none, none, none, none] H4 := hDE _ _ ⟨xs, none, rfl, k4, R4, hD, xl, hX60⟩
      refine ⟨.int (i : Nat), rfl, (i : Int), 1, rfl, rfl, _, rfl, ite2 (fun e => ?_) (fun e => ?_)⟩
      rotate_left
      · exact ifF rfl same
      refine ⟨.ref r, rfl, r, 2, rfl, R4, by decide, by decide, fun z H5 z0 z1 k5 R5 => ⟨rfl, _, rfl, ?_⟩⟩
      have hD5 := k5.1 _ _ Dr hD
      have hX5 : ∀ x ∈ xs, VecAt K H5 20 wd [r, D] x := fun x hx => (hX x hx).kp R4 k5 List.mem_cons_self
      by_cases zc : z = 0
      rotate_left
      · exact ifF (decide_eq_false fun y => zc (V.int.inj y)) (hDE _ _ ⟨xs, none, rfl, k4.trans k5, R5, hD5, xl, fun x hx => (hX5 x hx).up (by decide)⟩)
      refine ifT (decide_eq_true (by rw [zc])) ?_
      refine ⟨.ref r, rfl, r, rfl, R5, fun av H6 n5 d5 k6 R6 f5 => ?_⟩
      have fa := FR.of' f5
      have hD6 := k6.1 _ _ Dr hD5
      have hX6 : ∀ x ∈ xs, VecAt K H6 20 wd [r, D] x := fun x hx => (hX5 x hx).kp R5 k6 List.mem_cons_self
      have k46 := (k4.trans k5).trans k6
      have i2 : 1 < i := by have := of_decide_eq_true e; omega
      clear k5 k6 R5 hD5 hX5 same hX60 e
      obtain ⟨x0, h0⟩ : ∃ x, xs[0]? = some x := ⟨_, List.getElem?_eq_getElem (by omega)⟩
      obtain ⟨x1, h1⟩ : ∃ x, xs[i - 1]? = some x := ⟨_, List.getElem?_eq_getElem (by omega)⟩
      have at1 : atI xs ((i : Int) - 1) = some x1 := by rw [show (i : Int) - 1 = ((i - 1 : Nat) : Int) by omega]; exact atI_nat h1
      obtain ⟨p0, zs0, rfl, nb0, hp0, zl0, g0⟩ := hX6 x0 (List.mem_of_getElem? h0)
      obtain ⟨p1, zs1, rfl, nb1, hp1, zl1, g1⟩ := hX6 x1 (List.mem_of_getElem? h1)
      refine ⟨.ref D, rfl, D, xs, 0, .ref p0, rfl, rfl, SqL.of hD6, atI_nat (j := 0) h0, .ref D, rfl, .int (i : Nat), rfl, (i : Int), 1, rfl, rfl, D, xs, _, .ref p1, rfl, rfl, SqL.of hD6, at1, p0, p1, zs0, zs1, rfl, .inl ⟨SqL.of hp0, SqL.of hp1, fun L nL => ?_⟩⟩
      have Lr : L ≠ r := R6.ne nL
      have LD : L ≠ D := (ne_of_none hD6 nL).symm
      refine ⟨fun j m' H7 => j + m' = wd ∧ Same H6 H7 ∧ ∃ zs, H7 L = some (.lst zs) ∧ zs.length = j ∧ FOf K H7 60 zs, ⟨wd, by omega, Same.new nL, [], upd_same, rfl, FOf.nil⟩, fun j m' H7 hW => ?_⟩
      obtain ⟨em', s7, zs, hL7, zl, hZ⟩ := hW
      by_cases hjt : j < wd
      · refine .inr ⟨⟨zs0, zs1, zs0[j]'(by omega), zs1[j]'(by omega), s7.seq (SqL.of hp0), s7.seq (SqL.of hp1), List.getElem?_eq_getElem _, List.getElem?_eq_getElem _⟩, fun H8 => Same H6 H8 ∧ ∃ zs, H8 L = some (.lst zs) ∧ zs.length = j + 1 ∧ FOf K H8 60 zs, fun H8 hN => ⟨m' - 1, by omega, by omega, hN⟩, fun v H8 hy => ?_⟩
        obtain ⟨tt, u1, u2, rfl, nT, rfl, f1, f2⟩ := hy
        have st := Same.new (o := .tup [u1, u2]) nT
        have s8 := s7.trans st
        obtain ⟨q1, g1'⟩ := g0 u1 (List.mem_of_getElem? (f1 _ (s7.seq (SqL.of hp0))))
        obtain ⟨q2, g2'⟩ := g1 u2 (List.mem_of_getElem? (f2 _ (s7.seq (SqL.of hp1))))
        have g1' := g1'.same s8
        have g2' := g2'.same s8
        have fa8 := (fa.same s8)
        refine ⟨tt, [u1, u2], rfl, SqT.of upd_same, rfl, u1, [u2], rfl, u2, [], rfl, rfl, rfl, tYes_if ?_⟩
        refine ⟨u1, rfl, av, rfl, u2, rfl, av, u2, _, q2, rfl, fa8.up (by decide), g2'.up (by decide), fun pm npm => ?_⟩
        have sm := Same.new (o := .tup [.int (ofR (toR (n5, d5) * q2)).1, .int (ofR (toR (n5, d5) * q2)).2]) npm
        have fm := FR.new (K := K) (H := upd H7 tt (.tup [u1, u2])) (p := pm) (fa8.bt.mul g2'.bt)
        refine ⟨u1, .ref pm, q1, _, rfl, (g1'.same sm).up (by decide), fm.up (by decide), fun pa npa => ?_⟩
        have sa := Same.new (o := .tup [.int (ofR (q1 + toR (n5, d5) * q2)).1, .int (ofR (q1 + toR (n5, d5) * q2)).2]) npa
        have fsum := FR.new (K := K) (H := upd (upd H7 tt (.tup [u1, u2])) pm (.tup [.int (ofR (toR (n5, d5) * q2)).1, .int (ofR (toR (n5, d5) * q2)).2])) (p := pa) (B := 60) (((g1'.same sm).bt.add fm.bt).up (by decide))
        have s9 := st.trans (sm.trans sa)
        have hL9 := s9 _ _ hL7
        refine ⟨zs, hL9, szl (by omega), fun c o e => ?_, zs ++ [.ref pa], upd_same, by rw [List.length_append, zl]; rfl, ((hZ.same s9).put hL9).snoc (fsum.put hL9)⟩
        rw [upd_ne (ne_of_none e nL)]
        exact s9 _ _ (s7 _ _ e)
      · have ej : j = wd := by omega
        subst ej
        refine .inl ⟨⟨zs0, zs1, s7.seq (SqL.of hp0), s7.seq (SqL.of hp1), .inl (by omega)⟩, ?_⟩
        have R7 := R6.same s7
        refine ⟨.ref D, rfl, .ref r, rfl, .int (i : Nat), rfl, r, (i : Int), rfl, R7, by omega, by omega, fun z2 H8 z20 z21 k8 R8 => ?_⟩
        have k38 := k46.trans ((Kp.of s7).trans k8)
        have hD8 := k8.1 _ _ Dr (s7 _ _ hD6)
        have hL8 := k8.1 _ _ Lr hL7
        refine ⟨D, xs, z2, z2.toNat, rfl, rfl, hD8, ixN_nat (by omega) (by omega), hDE _ _ ⟨xs.set z2.toNat (.ref L), _, rfl, k38.put (H := H3) nD Dr, R3.put nD k38 R8, upd_same, by rw [List.length_set]; exact xl, fun x hx => ?_⟩⟩
        rcases List.mem_or_eq_of_mem_set hx with h | h
        · exact (((hX6 x h).same s7).kp R7 k8 List.mem_cons_self |>.up (by decide)).put hD8 (List.mem_cons_of_mem _ List.mem_cons_self)
        · rw [h]
          refine VecAt.put ⟨L, zs, rfl, ?_, hL8, zl, hZ.kp R7 k8⟩ hD8 (List.mem_cons_of_mem _ List.mem_cons_self)
          intro hm
          rcases List.mem_cons.mp hm with e | e
          · exact Lr e
          · exact LD (List.mem_singleton.mp e)
    clear hX hD R4 k4 xl
    rintro σ H4 ⟨xs, y4, rfl, k4, R4, hD, xl, hX⟩
    -- the values that are met
    refine ⟨.int (wd : Nat), rfl, (wd : Int), rfl, by omega, by omega, fun M nM => ?_⟩
    have Mr : M ≠ r := R4.ne nM
    have DM : D ≠ M := ne_of_none hD nM
    refine ⟨fun j m H5 => j + m = wd ∧ Kp r H4 H5 ∧ Rg H5 r ∧ ∃ zs, H5 M = some (.lst zs) ∧ zs.length = j ∧ FOf K H5 20 zs, ⟨wd, by omega, Kp.of (Same.new nM), R4.same (Same.new nM), [], upd_same, rfl, FOf.nil⟩, fun j m H5 hW => ?_⟩
    obtain ⟨em, k5, R5, ms, hM, ml, hMF⟩ := hW
    by_cases hjt : j < wd
    · refine .inr ⟨(show j < ((wd : Nat) : Int).toNat by omega), fun H6 => Kp r H4 H6 ∧ Rg H6 r ∧ ∃ zs, H6 M = some (.lst zs) ∧ zs.length = j + 1 ∧ FOf K H6 20 zs, fun H6 hN => ⟨m - 1, by omega, by omega, hN⟩, fun v H6 hy => ?_⟩
      obtain ⟨rfl, rfl⟩ := hy
      refine ⟨rfl, tYes_if ?_⟩
      refine ⟨.ref r, rfl, r, rfl, R5, fun fv H8 n5 d5 k8 R8 f5 => ?_⟩
      have hM8 := k8.1 _ _ Mr hM
      exact ⟨ms, hM8, szl (by omega), (k5.trans k8).put (H := H4) nM Mr, R4.put nM (k5.trans k8) R8, ms ++ [fv], upd_same, by rw [List.length_append, ml]; rfl, ((hMF.kp R5 k8).put hM8).snoc (((FR.of' f5).up (by decide)).put hM8)⟩
    have ej : j = wd := by omega
    subst ej
    refine .inl ⟨(show ((j : Nat) : Int).toNat ≤ j by omega), ?_⟩
    have hD5 := k5.1 _ _ Dr hD
    have hX5 : ∀ x ∈ xs, VecAt K H5 60 j [r, D] x := fun x hx => (hX x hx).kp R4 k5 List.mem_cons_self
    have k35 := k4.trans k5
    clear hX hD k4 k5 hjt em R4 nM
    -- the targets
    refine ⟨.ref D, rfl, D, rfl, ⟨_, SqL.of hD5⟩, fun TL nTL => ?_⟩
    have TLr : TL ≠ r := R5.ne nTL
    have DTL : D ≠ TL := ne_of_none hD5 nTL
    have nTL3 : H3 TL = none := by
      cases e : H3 TL with
      | none => rfl
      | some o =>
        have := k35.1 _ _ TLr e
        rw [nTL] at this
        cases this
    have hXT : ∀ x ∈ xs, ∀ p, x = V.ref p → p ≠ TL := fun x hx p e => by
      obtain ⟨p0, zs0, e0, nb0, hp0, _⟩ := hX5 x hx
      rw [e] at e0
      cases e0
      exact ne_of_none hp0 nTL
    refine lc_list (K := K) (a := D) (xs := xs) (fun c H6 => Same H5 H6 ∧ ∃ ys, H6 TL = some (.lst ys) ∧ ys.length = c ∧ FOf K H6 500 ys) ⟨Same.new nTL, [], upd_same, rfl, FOf.nil⟩ (fun c H6 _ h6 => SqL.of (h6.1 _ _ hD5)) ?_ ?_
    · rintro c x H6 hx ⟨s6, ys, hT6, yl, hY⟩
      have cl := (List.getElem?_eq_some_iff.mp hx).1
      obtain ⟨p0, zs0, rfl, nb0, hp0, zl0, g0⟩ := (hX5 x (List.mem_of_getElem? hx)).same s6
      have hM6 := s6 _ _ hM
      refine ⟨rfl, tYes_if ?_⟩
      refine ⟨.ref p0, rfl, .ref M, rfl, p0, M, zs0, ms, rfl, .inl ⟨SqL.of hp0, SqL.of hM6, fun L nL => ?_⟩⟩
      refine ⟨fun b m' H7 => b + m' = j ∧ Same H6 H7 ∧ ∃ zs qs, H7 L = some (.lst zs) ∧ zs.length = b ∧ FRs K H7 zs qs 80, ⟨j, by omega, Same.new nL, [], [], upd_same, rfl, FRs.nil⟩, fun b m' H7 hW => ?_⟩
      obtain ⟨em', s7, zs, qs, hL7, zl, hZ⟩ := hW
      by_cases hbt : b < j
      · refine .inr ⟨⟨zs0, ms, zs0[b]'(by omega), ms[b]'(by omega), s7.seq (SqL.of hp0), s7.seq (SqL.of hM6), List.getElem?_eq_getElem _, List.getElem?_eq_getElem _⟩, fun H8 => Same H6 H8 ∧ ∃ zs qs, H8 L = some (.lst zs) ∧ zs.length = b + 1 ∧ FRs K H8 zs qs 80, fun H8 hN => ⟨m' - 1, by omega, by omega, hN⟩, fun v H8 hy => ?_⟩
        obtain ⟨tt, u1, u2, rfl, nT, rfl, f1, f2⟩ := hy
        have st := Same.new (o := .tup [u1, u2]) nT
        obtain ⟨q1, g1'⟩ := g0 u1 (List.mem_of_getElem? (f1 _ (s7.seq (SqL.of hp0))))
        obtain ⟨q2, g2'⟩ := hMF u2 (List.mem_of_getElem? (f2 _ (s7.seq (SqL.of hM6))))
        have g1' := g1'.same (s7.trans st)
        have g2' := g2'.same (s6.trans (s7.trans st))
        refine ⟨tt, [u1, u2], rfl, SqT.of upd_same, rfl, u1, [u2], rfl, u2, [], rfl, rfl, rfl, tYes_if ?_⟩
        refine ⟨u1, rfl, u2, rfl, u1, u2, q1, q2, rfl, g1'.up (by decide), g2'.up (by decide), fun pm npm => ?_⟩
        have sm := Same.new (o := .tup [.int (ofR (q1 * q2)).1, .int (ofR (q1 * q2)).2]) npm
        have fm := FR.new (K := K) (H := upd H7 tt (.tup [u1, u2])) (p := pm) (g1'.bt.mul g2'.bt)
        have s9 := st.trans sm
        have hL9 := s9 _ _ hL7
        refine ⟨zs, hL9, szl (by omega), fun c o e => ?_, zs ++ [.ref pm], qs ++ [q1 * q2], upd_same, by rw [List.length_append, zl]; rfl, FRs.snoc (hZ.mono fun _ _ z => (z.same s9).put hL9) (FR.put fm hL9)⟩
        rw [upd_ne (ne_of_none e nL)]
        exact s9 _ _ (s7 _ _ e)
      · have ej : b = j := by omega
        subst ej
        refine .inl ⟨⟨zs0, ms, s7.seq (SqL.of hp0), s7.seq (SqL.of hM6), .inl (by omega)⟩, ?_⟩
        refine ⟨L, zs, qs, 80, rfl, SqL.of hL7, hZ, by rw [zl]; omega, fun v H8 s8 fv => ?_⟩
        have s68 := s7.trans s8
        have hT8 := s68 _ _ hT6
        refine ⟨ys, hT8, szl (by omega), fun c o e => ?_, ys ++ [v], upd_same, by rw [List.length_append, yl]; rfl, ((hY.same s68).put hT8).snoc ((fv.up (by rw [zl]; omega)).put hT8)⟩
        rw [upd_ne (ne_of_none e nTL)]
        exact s68 _ _ (s6 _ _ e)
    rintro H6 ⟨s6, ys, hT6, yl, hY⟩
    have R6 := R5.same s6
    have hD6 := s6 _ _ hD5
    have hX6 : ∀ x ∈ xs, VecAt K H6 60 j [r, D] x := fun x hx => (hX5 x hx).same s6
    have k36 := k35.trans (Kp.of s6)
    clear hX5 hD5 s6 R5 k35 hM hMF
    dsimp only
    have TLD : TL ≠ D := DTL.symm
    refine go_if3 (fun σ H' => ∃ ys, σ = [some (.ref r), some (.int (i : Nat)), some (.int (j : Nat)), some (.ref D), y4, some (.ref M), some (.ref TL), none, none, none, none, none] ∧ Kp r H3 H' ∧ Rg H' r ∧ H' D = some (.lst xs) ∧ (∀ x ∈ xs, VecAt K H' 60 j [r, D] x) ∧ H' TL = some (.lst ys) ∧ ys.length = i ∧ FOf K H' 500 ys) ?_ (fun DE hDE => ?_)
    rotate_left
    · refine ⟨.ref r, rfl, r, 2, rfl, R6, by decide, by decide, fun z H7 z0 z1 k7 R7 => ⟨rfl, _, rfl, ?_⟩⟩
      have hD7 := k7.1 _ _ Dr hD6
      have hT7 := k7.1 _ _ TLr hT6
      have hX7 : ∀ x ∈ xs, VecAt K H7 60 j [r, D] x := fun x hx => (hX6 x hx).kp R6 k7 List.mem_cons_self
      have hY7 := hY.kp R6 k7
      have k37 := k36.trans k7
      by_cases zc : z = 0
      rotate_left
      · exact ifF (decide_eq_false fun y => zc (V.int.inj y)) (hDE _ _ ⟨ys, rfl, k37, R7, hD7, hX7, hT7, by omega, hY7⟩)
      refine ifT (decide_eq_true (by rw [zc])) ?_
      refine ⟨.ref r, rfl, r, rfl, R7, fun fv H8 n5 d5 k8 R8 f5 => ?_⟩
      refine ⟨.ref TL, rfl, .ref r, rfl, .int (i : Nat), rfl, r, (i : Int), rfl, R8, by omega, by omega, fun z2 H9 z20 z21 k9 R9 => ?_⟩
      have k79 := k8.trans k9
      have hT9 := k79.1 _ _ TLr hT7
      have hD9 := k79.1 _ _ Dr hD7
      have hfv := (FR.of' f5).kp R8 k9
      refine ⟨TL, ys, z2, z2.toNat, rfl, rfl, hT9, ixN_nat (by omega) (by omega), hDE _ _ ⟨ys.set z2.toNat fv, rfl, (k37.trans k79).put (H := H3) nTL3 TLr, Rg.put (R3) nTL3 (k37.trans k79) R9, by rw [upd_ne DTL]; exact hD9, fun x hx => ?_, upd_same, by rw [List.length_set]; omega, fun y hy => ?_⟩⟩
      · obtain ⟨p0, zs0, rfl, nb0, hp0, zl0, g0⟩ := (hX7 x hx).kp R7 k79 List.mem_cons_self
        have pT : p0 ≠ TL := hXT _ hx p0 rfl
        exact ⟨p0, zs0, rfl, nb0, by rw [upd_ne pT]; exact hp0, zl0, fun u hu => by obtain ⟨q, g⟩ := g0 u hu; exact ⟨q, g.put hT9⟩⟩
      · rcases List.mem_or_eq_of_mem_set hy with h | h
        · obtain ⟨q, g⟩ := (hY7.kp R7 k79) y h
          exact ⟨q, g.put hT9⟩
        · rw [h]; exact ⟨_, (hfv.up (by decide)).put hT9⟩
    rintro σ H7 ⟨ys, rfl, k7, R7, hD7, hX7, hT7, yl7, hY7⟩
    refine ⟨.ref D, rfl, .ref TL, rfl, sz (by show 2 ≤ 100000; decide), fun t nt => ?_⟩
    have st := Same.new (o := .tup [.ref D, .ref TL]) nt
    exact w t D TL xs ys j _ (k03.trans (k7.trans (Kp.of st))) (R7.same st) (SqT.of upd_same) Dr TLr (st _ _ hD7) (st _ _ hT7) (by omega) (by omega) (by omega) (by omega) (by omega) (fun x hx => (hX7 x hx).same st) (hY7.same st)
end
section
variable {P : Program} {w : World} {K : PySem.W.Frag} {mg : Str → Option Value} {base : Heap} {a : Ad}
def sp_p_law (K : PySem.W.Frag) (a : Ad) : Sp := fun vs H Q _ => ∃ (b : Addr) (ns : List Int), vs = [.ref b] ∧ SqL K H b (ns.map V.int) ∧ ns.length ≤ 63 ∧ H a.tL = some (.tbl #[]) ∧ ∀ H', Q (.bl true) H'
/-- lists off r, by their lengths -/
def LenP (r : Addr) (H : Hp) (xs : List V) (ls : List Nat) : Prop := xs.length = ls.length ∧ ∀ (i : Nat) x l, xs[i]? = some x → ls[i]? = some l → ∃ p zs, x = .ref p ∧ p ≠ r ∧ H p = some (.lst zs) ∧ zs.length = l
theorem LenP.same {r : Addr} {H H' : Hp} {xs : List V} {ls : List Nat} (h : LenP r H xs ls) (s : Same H H') : LenP r H' xs ls := ⟨h.1, fun i x l a b => by obtain ⟨p, zs, e, n, hp, q⟩ := h.2 i x l a b; exact ⟨p, zs, e, n, s _ _ hp, q⟩⟩
theorem LenP.kp {r : Addr} {H H' : Hp} {xs : List V} {ls : List Nat} (h : LenP r H xs ls) (k : Kp r H H') : LenP r H' xs ls := ⟨h.1, fun i x l a b => by obtain ⟨p, zs, e, n, hp, q⟩ := h.2 i x l a b; exact ⟨p, zs, e, n, k.1 _ _ n hp, q⟩⟩
theorem LenP.lens {r : Addr} {H : Hp} {xs : List V} {ls : List Nat} (h : LenP r H xs ls) : LensAt H xs ls := ⟨h.1, fun i x l a b => by obtain ⟨p, zs, e, n, hp, q⟩ := h.2 i x l a b; exact ⟨p, zs, e, hp, q⟩⟩
theorem LenP.app {r : Addr} {H : Hp} {xs ys : List V} {ls ms : List Nat} (a : LenP r H xs ls) (b : LenP r H ys ms) : LenP r H (xs ++ ys) (ls ++ ms) := by
  refine ⟨by rw [List.length_append, List.length_append, a.1, b.1], fun i x t h1 h2 => ?_⟩
  by_cases hi : i < xs.length
  · rw [List.getElem?_append_left hi] at h1
    rw [List.getElem?_append_left (by rw [← a.1]; exact hi)] at h2
    exact a.2 i x t h1 h2
  · rw [List.getElem?_append_right (by omega)] at h1
    rw [List.getElem?_append_right (by rw [← a.1]; omega), ← a.1] at h2
    exact b.2 _ x t h1 h2
theorem LenP.take {r : Addr} {H : Hp} {xs : List V} {ls : List Nat} (h : LenP r H xs ls) (n : Nat) : LenP r H (xs.take n) (ls.take n) := by
  refine ⟨by rw [List.length_take, List.length_take, h.1], fun i x t h1 h2 => ?_⟩
  rw [List.getElem?_take] at h1 h2
  split at h1
  · rename_i hi
    rw [if_pos hi] at h2
    exact h.2 i x t h1 h2
  · cases h1
theorem LenP.drop {r : Addr} {H : Hp} {xs : List V} {ls : List Nat} (h : LenP r H xs ls) (n : Nat) : LenP r H (xs.drop n) (ls.drop n) := by
  refine ⟨by rw [List.length_drop, List.length_drop, h.1], fun i x t h1 h2 => ?_⟩
  rw [List.getElem?_drop] at h1 h2
  exact h.2 _ x t h1 h2
theorem LenP.one {r : Addr} {H : Hp} {p : Addr} {zs : List V} (n : p ≠ r) (hp : H p = some (.lst zs)) : LenP r H [.ref p] [zs.length] := ⟨rfl, fun i x l a b => by
  cases i with
  | zero => cases a; cases b; exact ⟨p, zs, rfl, n, hp, rfl⟩
  | succ i => cases a⟩
theorem shErr_rep {q w m : Nat} (h : m ≠ q) : shErr (List.replicate q w) m = some q := by
  have hf : (List.replicate q w).findIdx? (fun l => !decide (l = (List.replicate q w).getD 0 0)) = none := by
    rw [List.findIdx?_eq_none_iff]
    intro l hl
    obtain ⟨n0, e⟩ := List.mem_replicate.mp hl
    have e0 : (List.replicate q w).getD 0 0 = w := by
      rw [List.getD_eq_getElem?_getD, List.getElem?_replicate, if_pos (by omega)]
      rfl
    rw [e0, e]
    simp
  unfold shErr
  rw [hf]
  show (if m = (List.replicate q w).length then none else some (List.replicate q w).length) = some q
  rw [List.length_replicate, if_neg h]
theorem shErr_row {w w' p c m : Nat} (hp : 0 < p) (hw : w' ≠ w) : shErr (List.replicate p w ++ [w'] ++ List.replicate c w) m = some p := by
  have e0 : (List.replicate p w ++ [w'] ++ List.replicate c w).getD 0 0 = w := by
    rw [List.getD_eq_getElem?_getD, List.append_assoc, List.getElem?_append_left (by rw [List.length_replicate]; exact hp), List.getElem?_replicate, if_pos hp]
    rfl
  have hf : (List.replicate p w ++ [w'] ++ List.replicate c w).findIdx? (fun l => !decide (l = (List.replicate p w ++ [w'] ++ List.replicate c w).getD 0 0)) = some p := by
    rw [e0]
    refine drop_find (fun j l hj hl => ?_) w' ?_ (by rw [decide_eq_false hw]; rfl)
    · rw [List.append_assoc, List.getElem?_append_left (by rw [List.length_replicate]; exact hj), List.getElem?_replicate, if_pos hj] at hl
      cases hl
      simp
    · rw [List.append_assoc, List.getElem?_append_right (by rw [List.length_replicate]; omega), List.length_replicate, Nat.sub_self]
      rfl
  unfold shErr
  rw [hf]
/-- what stands while the law asks -/
structure S21 (K : PySem.W.Frag) (a : Ad) (H : Hp) (r rl tl : Addr) (xs ys : List V) (ls : List Nat) : Prop where
  R : Rg H r
  T : LamX.Tabs (tabs a) H
  rr : rl ≠ r
  tr : tl ≠ r
  hr : H rl = some (.lst xs)
  ht : H tl = some (.lst ys)
  L : LenP r H xs ls
theorem S21.same {K : PySem.W.Frag} {a : Ad} {H H' : Hp} {r rl tl : Addr} {xs ys : List V} {ls : List Nat} (h : S21 K a H r rl tl xs ys ls) (s : Same H H') : S21 K a H' r rl tl xs ys ls := ⟨h.R.same s, Tabs.same h.T s, h.rr, h.tr, s _ _ h.hr, s _ _ h.ht, h.L.same s⟩
theorem S21.kp {K : PySem.W.Frag} {a : Ad} {H H' : Hp} {r rl tl : Addr} {xs ys : List V} {ls : List Nat} (h : S21 K a H r rl tl xs ys ls) (k : Kp r H H') (R : Rg H' r) : S21 K a H' r rl tl xs ys ls := ⟨R, Tabs.kp h.T h.R k, h.rr, h.tr, k.1 _ _ h.rr h.hr, k.1 _ _ h.tr h.ht, h.L.kp k⟩
theorem S21.ext {K : PySem.W.Frag} {a : Ad} {H H' : Hp} {r rl tl : Addr} {xs ys : List V} {ls : List Nat} (h : S21 K a H r rl tl xs ys ls) (k : LamX.ExtN H H') (t : LamX.Tabs (tabs a) H') : S21 K a H' r rl tl xs ys ls := ⟨ExtN.rg k h.R, t, h.rr, h.tr, k _ _ h.hr (fun ps z => by cases z), k _ _ h.ht (fun ps z => by cases z), ⟨h.L.1, fun i x l a b => by obtain ⟨p, zs, e, n, hp, q⟩ := h.L.2 i x l a b; exact ⟨p, zs, e, n, k _ _ hp (fun ps z => by cases z), q⟩⟩⟩

theorem ok_p_law (T : Txt K mg a) (TB : LamX.TabB base mg a.cL a.tL) : FnOk P w K mg base CX0 40 a.f_p_law a.fd_p_law ["_law_script"] (sp_p_law K a) := by
  have G_l_source := ok_l_source (P := P) (w := w) (base := base) T
  have G_l_linear_case := ok_l_linear_case (P := P) (w := w) (base := base) T
  have G_l_draw := ok_l_draw (P := P) (w := w) (base := base) T
  have G_l_equal := ok_l_equal (P := P) (w := w) (base := base) T
  have G_l_choice := ok_l_choice (P := P) (w := w) (base := base) T
  have G_p_solve_linear := ok_p_solve_linear (P := P) (w := w) (base := base) T
  have G_p_check_solution := ok_p_check_solution (P := P) (w := w) (base := base) T
  have Gx_p_solve_linear := okx_p_solve_linear (P := P) (w := w) (base := base) T
  have Gx_p_check_solution := okx_p_check_solution (P := P) (w := w) (base := base) T
  refine T.F_p_law.ok sc_p_law (fun vs H Q E h => ?_) (fun A outer s H vs Q E hr h => ?_)
  · obtain ⟨b, ns, rfl, _⟩ := h
    rfl
  obtain ⟨b, ns, rfl, hS, hlen, hT0, w⟩ := h
  refine ⟨_, (pss_cons (ps_set (i := 1) sc_p_law.nd rfl (by first | exact Or.inl rfl | exact Or.inr rfl) (pe_call G_l_source (hr.mono (by first | decide | omega)) (by rfl) T.g_l_source T.F_l_source.kp T.b_l_source .nil pass0 (pa_cons (pv 0) pa_nil)))
      (pss_cons (ps_for PassesOwn.never rfl (pi_range1 (by rfl) T.n_range (pa_cons pe_int pa_nil)) (pg_name (i := 2) sc_p_law.nd rfl (by first | exact Or.inl rfl | exact Or.inr rfl)) (pss_cons (ps_asg (pe_call G_l_linear_case (hr.mono (by first | decide | omega)) (by rfl) T.g_l_linear_case T.F_l_linear_case.kp T.b_l_linear_case .nil pass0 (pa_cons (pv 1) pa_nil)) (pg_tup rfl (pgs_cons (pg_name (i := 3) sc_p_law.nd rfl (by first | exact Or.inl rfl | exact Or.inr rfl)) (pgs_cons (pg_name (i := 4) sc_p_law.nd rfl (by first | exact Or.inl rfl | exact Or.inr rfl)) pgs_nil))))
      (pss_cons (ps_par3 (i := 5) (j := 6) (l := 7) (by rfl) sc_p_law.nd rfl rfl rfl (by decide) (by decide) (by decide) rfl rfl rfl (pa_cons (pe_call G_l_draw (hr.mono (by first | decide | omega)) (by rfl) T.g_l_draw T.F_l_draw.kp T.b_l_draw .nil pass0 (pa_cons (pv 1) (pa_cons (pe_callB call_len (by rfl) T.n_len (by decide +kernel) (pa_cons (pv 3) pa_nil)) pa_nil))) (pa_cons (pe_call G_l_draw (hr.mono (by first | decide | omega)) (by rfl) T.g_l_draw T.F_l_draw.kp T.b_l_draw .nil pass0 (pa_cons (pv 1) (pa_cons pe_int pa_nil))) (pa_cons (pe_tup (pa_cons pe_str (pa_cons pe_non pa_nil))) pa_nil))) (by rfl))
      (pss_cons (ps_if (pt_cmpR op_gt (pv 6) pe_int (nomark _)) (pss_one (ps_asg (pe_tup (pa_cons (pe_call G_l_choice (hr.mono (by first | decide | omega)) (by rfl) T.g_l_choice T.F_l_choice.kp T.b_l_choice .nil pass0 (pa_cons (pv 1) (pa_cons (pe_lst (pa_cons (pe_slice sl_list (pv 4) (po_some pe_int) po_none) (pa_cons (pe_op op_cat (pv 4) (pe_lst (pa_cons (pe_tup (pa_cons pe_int (pa_cons pe_int pa_nil))) pa_nil))) pa_nil))) pa_nil))) (pa_cons (pe_tup (pa_cons pe_str (pa_cons (pe_callB call_len (by rfl) T.n_len (by decide +kernel) (pa_cons (pv 3) pa_nil)) pa_nil))) pa_nil))) (pg_tup rfl (pgs_cons (pg_name (i := 4) sc_p_law.nd rfl (by first | exact Or.inl rfl | exact Or.inr rfl)) (pgs_cons (pg_name (i := 7) sc_p_law.nd rfl (by first | exact Or.inl rfl | exact Or.inr rfl)) pgs_nil))))) pss_nil)
      (pss_cons (ps_if (PW.pt (pw_and (pt_cmpR op_lt (pv 6) pe_int (nomark _)) (pw_and1 (pt_cmpR op_gt (pv 5) pe_int (nomark _))))) (pss_one (ps_asg (pe_tup (pa_cons (pe_op op_cat (pe_op op_cat (pe_slice sl_list (pv 3) po_none (po_some (pv 5))) (pe_lst (pa_cons (pe_call G_l_choice (hr.mono (by first | decide | omega)) (by rfl) T.g_l_choice T.F_l_choice.kp T.b_l_choice .nil pass0 (pa_cons (pv 1) (pa_cons (pe_lst (pa_cons (pe_slice sl_list (pe_ix ix_list (pv 3) (pv 5) (fun _ _ => rfl)) (po_some pe_int) po_none) (pa_cons (pe_op op_cat (pe_ix ix_list (pv 3) (pv 5) (fun _ _ => rfl)) (pe_lst (pa_cons (pe_tup (pa_cons pe_int (pa_cons pe_int pa_nil))) pa_nil))) pa_nil))) pa_nil))) pa_nil))) (pe_slice sl_list (pv 3) (po_some (pe_op op_add (pv 5) pe_int)) po_none)) (pa_cons (pe_tup (pa_cons pe_str (pa_cons (pv 5) pa_nil))) pa_nil))) (pg_tup rfl (pgs_cons (pg_name (i := 3) sc_p_law.nd rfl (by first | exact Or.inl rfl | exact Or.inr rfl)) (pgs_cons (pg_name (i := 7) sc_p_law.nd rfl (by first | exact Or.inl rfl | exact Or.inr rfl)) pgs_nil))))) pss_nil)
      (pss_cons (ps_if (pt_cmpR op_eq (pe_ix ix_tup (pv 7) pe_int (fun _ _ => rfl)) pe_str (nomark _)) (pss_one ps_continue) pss_nil)
      (pss_cons (ps_set (i := 8) sc_p_law.nd rfl (by first | exact Or.inl rfl | exact Or.inr rfl) (pe_lst (pa_cons (LmN.pe_lam2 (T := tabs a) (TT := TTe K a) (TT2 := TTo K a) (by rfl) T.g_l_error T.F_l_error T.b_l_error sc_l_error rfl (.inl rfl) (by rfl) T.g_l_outcome T.F_l_outcome T.b_l_outcome sc_l_outcome rfl (.inl rfl) (fun Y _ hK hM => giv2_l_outcome T hK hM (fun t => giv_l_outcome t)) (fun _ => hnd_l_error T) TB rfl tabs_in tabs_uq (hr.mono (by first | decide | omega)) (LamX.lamS_by (sc := defScope s_p_law) (by decide +kernel)) rfl (fun _ _ _ _ _ => rfl) (k := 30) (fun _ _ _ _ _ _ _ hr => (pe_call Gx_p_solve_linear (hr.mono (by first | decide | omega)) (by rfl) T.g_p_solve_linear T.F_p_solve_linear.kp T.b_p_solve_linear .nil (L2N.passes_call LmN.lam_takes (fun _ _ _ _ h => h)) (pa_cons (pv 3) (pa_cons (pv 4) pa_nil))))) (pa_cons (LmN.pe_lamD2 (T := tabs a) (TT := TTe K a) (TT2 := TTo K a) (by rfl) T.g_l_error T.F_l_error T.b_l_error sc_l_error rfl (.inl rfl) (by rfl) T.g_l_outcome T.F_l_outcome T.b_l_outcome sc_l_outcome rfl (.inl rfl) (fun Y _ hK hM => giv2_l_outcome T hK hM (fun t => giv_l_outcome t)) (fun _ => hnd_l_error T) TB rfl tabs_in tabs_uq (hr.mono (by first | decide | omega)) (LmN.lamD_by (N := ["_law_script", "_law_rng", "_law_turn", "_law_rows", "_law_targets", "_law_pos", "_law_pick", "_law_expected", "_law_result"]) (x := "_law_a") (sc := defScope s_p_law) (by decide +kernel)) rfl rfl (fun _ _ _ _ _ _ _ => ⟨_, rfl, fun _ => rfl⟩) (k := 30) (fun _ _ _ _ _ _ _ hr => (pe_call Gx_p_check_solution (hr.mono (by first | decide | omega)) (by rfl) T.g_p_check_solution T.F_p_check_solution.kp T.b_p_check_solution .nil (L2N.passes_call LmN.lam_takes (fun _ _ _ _ h => h)) (pa_cons (pv 3) (pa_cons (pv 4) (pa_cons (pe_tup (pa_cons pe_str (pa_cons (pe_lst pa_nil) pa_nil))) pa_nil)))))) pa_nil))))
      (pss_one (ps_if (pt_not (pt_val (pe_call G_l_equal (hr.mono (by first | decide | omega)) (by rfl) T.g_l_equal T.F_l_equal.kp T.b_l_equal .nil pass0 (pa_cons (pv 8) (pa_cons (pe_lst (pa_cons (pv 7) (pa_cons (pv 7) pa_nil))) pa_nil))))) (pss_one (ps_ret pe_bl)) pss_nil)))))))))
      (pss_one (ps_ret pe_bl)))), ?_⟩
  refine ⟨.ref b, rfl, b, ns, rfl, hS, hlen, fun H0 r s0 nr R0 => ?_⟩
  have T0 : LamX.Tabs (tabs a) H0 := fun p hp => by rw [List.mem_singleton.mp hp]; exact LamX.TabS.nil (s0 _ _ hT0)
  refine ⟨6, rfl, by decide, by decide, for_range (n := 6) (fun _ σ H' => ∃ y2 y3 y4 y5 y6 y7 y8, σ = [some (.ref b), some (.ref r), y2, y3, y4, y5, y6, y7, y8] ∧ Rg H' r ∧ LamX.Tabs (tabs a) H') ⟨none, none, none, none, none, none, none, rfl, R0, T0⟩ ?_ ?_⟩
  rotate_left
  · rintro σ H1 ⟨y2, y3, y4, y5, y6, y7, y8, rfl, R1, T1⟩
    exact w H1
  rintro i σ H1 hi ⟨y2, y3, y4, y5, y6, y7, y8, rfl, R1, T1⟩
  refine ⟨.ref r, rfl, r, rfl, R1, fun t rl tl xs ys wd H2 k2 R2 ht rlr tlr hrl htl xy x1 x5 w1 w5 hX hY => ⟨t, _, rfl, ht, rfl, _, _, rfl, _, _, rfl, rfl, ?_⟩⟩
  have B2 : S21 K a H2 r rl tl xs ys (List.replicate xs.length wd) := ⟨R2, Tabs.kp T1 R1 k2, rlr, tlr, hrl, htl, by rw [List.length_replicate], fun i x l hx hl => by
    rw [List.getElem?_replicate] at hl
    split at hl
    · cases hl
      obtain ⟨p, zs, e, nb, hp, zl, _⟩ := hX x (List.mem_of_getElem? hx)
      exact ⟨p, zs, e, fun z => nb (by rw [z]; exact List.mem_cons_self), hp, zl⟩
    · cases hl⟩
  clear k2 R2 ht hrl htl hX hY R1 T1
  generalize (0 : Int) + (i : Int) = y2'
  refine ⟨.ref r, rfl, .ref rl, rfl, .ref rl, xs.length, rfl, .inl ⟨_, SqL.of B2.hr, rfl⟩, r, (xs.length : Int), rfl, B2.R, by omega, by omega, fun pz H3 p0 p1 k3 R3 => ?_⟩
  have B3 := B2.kp k3 R3
  refine ⟨.ref r, rfl, r, 3, rfl, B3.R, by decide, by decide, fun pk H4 pk0 pk1 k4 R4 => ?_⟩
  have B4 := B3.kp k4 R4
  refine ⟨sz (by show 2 ≤ 100000; decide), fun e0 ne0 => ?_⟩
  have t0 := Same.new (o := .tup [.str "", .non]) ne0
  have B5 := B4.same t0
  have he0 : SqT K (upd H4 e0 (.tup [.str "", .non])) e0 [.str "", .non] := SqT.of upd_same
  generalize upd H4 e0 (.tup [.str "", .non]) = H5 at *
  clear B2 B3 B4 k3 k4 R3 R4 ne0 t0
  refine ⟨_, _, _, rfl, ?_⟩
  dsimp only
  have q1 : 1 ≤ xs.length ∧ xs.length ≤ 5 := ⟨x1, x5⟩
  generalize hxl : xs.length = q at *
  -- the targets
  refine go_if3 (fun σ H' => ∃ tl ys e, σ = [some (.ref b), some (.ref r), some (.int y2'), some (.ref rl), some (.ref tl), some (.int pz), some (.int pk), some (.ref e), y8] ∧ S21 K a H' r rl tl xs ys (List.replicate q wd) ∧ ((ys.length = q ∧ SqT K H' e [.str "", .non]) ∨ (ys.length ≠ q ∧ SqT K H' e [.str "InvalidShape", .int (q : Nat)]))) ?_ (fun DE hDE => ?_)
  rotate_left
  · refine ⟨.int pk, rfl, pk, 0, rfl, rfl, _, rfl, ite2 (fun e1 => ?_) (fun e1 => ?_)⟩
    rotate_left
    · exact hDE _ _ ⟨tl, ys, e0, rfl, B5, .inl ⟨xy.symm, he0⟩⟩
    refine ⟨.ref r, rfl, .ref tl, rfl, 1, rfl, tl, ys, rfl, SqL.of B5.ht, fun c1 nc1 => ?_⟩
    rw [show cutV ys (some (1 : Int)) none = ys.drop 1 from cutFromL ys 1 (by omega)]
    have t1 := Same.new (o := .lst (ys.drop 1)) nc1
    refine ⟨.ref tl, rfl, sz (by show 2 ≤ 100000; decide), fun p1 np1 => ⟨sz (by show 1 ≤ 100000; decide), fun p2 np2 => ?_⟩⟩
    have t2 := Same.new (o := .tup [.int 1, .int 1]) np1
    have t3 := Same.new (o := .lst [.ref p1]) np2
    have t13 := t1.trans (t2.trans t3)
    refine ⟨tl, p2, ys, _, rfl, rfl, t13 _ _ B5.ht, upd_same, sz (by show _ + 1 ≤ _; omega), fun c2 nc2 => ⟨sz (by show 2 ≤ 100000; decide), fun cl ncl => ?_⟩⟩
    have t4 := Same.new (o := .lst (ys ++ [.ref p1])) nc2
    have t5 := Same.new (o := .lst [.ref c1, .ref c2]) ncl
    have t15 := t13.trans (t4.trans t5)
    have B6 := B5.same t15
    have hc1 := ((t2.trans t3).trans (t4.trans t5)) _ _ (show (upd H5 c1 (.lst (ys.drop 1))) c1 = _ from upd_same)
    have hc2 := t5 _ _ (show (upd (upd (upd (upd H5 c1 (.lst (ys.drop 1))) p1 (.tup [.int 1, .int 1])) p2 (.lst [.ref p1])) c2 (.lst (ys ++ [.ref p1]))) c2 = _ from upd_same)
    have c1r : c1 ≠ r := B5.R.ne nc1
    have c2r : c2 ≠ r := (B5.R.same t13).ne nc2
    refine ⟨r, .ref cl, _, rfl, B6.R, .inl ⟨cl, rfl, ((B5.R.same t13).same t4).ne ncl, .inl (SqL.of upd_same)⟩, by show 0 < 2; decide, by show 2 ≤ 100000; decide, fun y hy H6 k6 R6 => ?_⟩
    have B7 := B6.kp k6 R6
    obtain ⟨tn, zs, rfl, tnr, htn, zq⟩ : ∃ tn zs, y = .ref tn ∧ tn ≠ r ∧ H6 tn = some (.lst zs) ∧ zs.length ≠ q := by
      simp only [List.mem_cons, List.not_mem_nil, or_false] at hy
      rcases hy with rfl | rfl
      · exact ⟨c1, _, rfl, c1r, k6.1 _ _ c1r hc1, by rw [List.length_drop]; omega⟩
      · exact ⟨c2, _, rfl, c2r, k6.1 _ _ c2r hc2, by rw [List.length_append]; show ys.length + 1 ≠ q; omega⟩
    refine ⟨.ref rl, rfl, .ref rl, xs.length, rfl, .inl ⟨_, SqL.of B7.hr, rfl⟩, sz (by show 2 ≤ 100000; decide), fun e1 ne1 => ⟨sz (by show 2 ≤ 100000; decide), fun tp ntp => ⟨tp, _, rfl, sqN ntp, rfl, _, _, rfl, _, _, rfl, rfl, ?_⟩⟩⟩
    have u1 := Same.new (o := .tup [.str "InvalidShape", .int (xs.length : Nat)]) ne1
    have u2 := Same.new (o := .tup [.ref tn, .ref e1]) ntp
    have B8 := B7.same (u1.trans u2)
    refine hDE _ _ ⟨tn, zs, e1, rfl, ⟨B8.R, B8.T, B8.rr, tnr, B8.hr, (u1.trans u2) _ _ htn, B8.L⟩, .inr ⟨zq, ?_⟩⟩
    rw [← hxl]
    exact Same.T u2 (sqN ne1)
  clear B5 he0 xy
  rintro σ H6 ⟨tl, ys, e, rfl, B6, hE⟩
  -- the rows
  refine go_if3 (fun σ H' => ∃ rl xs e ls, σ = [some (.ref b), some (.ref r), some (.int y2'), some (.ref rl), some (.ref tl), some (.int pz), some (.int pk), some (.ref e), y8] ∧ S21 K a H' r rl tl xs ys ls ∧ xs.length ≤ 20 ∧ (SqT K H' e [.str "", .non] ∨ ∃ i : Nat, SqT K H' e [.str "InvalidShape", .int (i : Nat)] ∧ shErr ls ys.length = some i)) ?_ (fun DE hDE => ?_)
  rotate_left
  · have same : DE.nx [some (.ref b), some (.ref r), some (.int y2'), some (.ref rl), some (.ref tl), some (.int pz), some (.int pk), some (.ref e), y8] H6 := by
      refine hDE _ _ ⟨rl, xs, e, _, rfl, B6, by omega, ?_⟩
      rcases hE with ⟨_, h⟩ | ⟨hq, h⟩
      · exact .inl h
      · exact .inr ⟨q, h, shErr_rep hq⟩
    refine ⟨.int pk, rfl, pk, 2, rfl, rfl, _, rfl, ite2 (fun e1 => ?_) (fun e1 => ?_)⟩
    rotate_left
    · exact ifF rfl same
    refine ⟨.int pz, rfl, pz, 0, rfl, rfl, _, rfl, ?_⟩
    by_cases p0' : 0 < pz
    rotate_left
    · exact ifF (decide_eq_false p0') same
    refine ifT (decide_eq_true p0') ?_
    have pe : pz = ((pz.toNat : Nat) : Int) := by omega
    have pl : pz.toNat < xs.length := by omega
    obtain ⟨xp, hxp⟩ : ∃ x, xs[pz.toNat]? = some x := ⟨_, List.getElem?_eq_getElem pl⟩
    obtain ⟨p, zs, rfl, pr, hp, zl⟩ := B6.L.2 _ _ wd hxp (by rw [List.getElem?_replicate, if_pos (by omega)])
    have hat : atI xs pz = some (.ref p) := by have z := atI_nat hxp; rw [← pe] at z; exact z
    have ct : cutV xs none (some pz) = xs.take pz.toNat := by have z := cutToL xs pz.toNat (by omega); rw [← pe] at z; exact z
    have cd : cutV xs (some (pz + 1)) none = xs.drop (pz.toNat + 1) := by
      have z := cutFromL xs (pz.toNat + 1) (by omega)
      rw [show ((pz.toNat + 1 : Nat) : Int) = pz + 1 by omega] at z
      exact z
    refine ⟨.ref rl, rfl, .int pz, rfl, pz, rfl, rl, xs, rfl, SqL.of B6.hr, fun c1 nc1 => ?_⟩
    rw [ct]
    have t1 := Same.new (o := .lst (xs.take pz.toNat)) nc1
    refine ⟨.ref r, rfl, .ref rl, rfl, .int pz, rfl, rl, xs, pz, .ref p, rfl, rfl, SqL.of (t1 _ _ B6.hr), hat, 1, rfl, p, zs, rfl, SqL.of (t1 _ _ hp), fun c2 nc2 => ?_⟩
    rw [show cutV zs (some (1 : Int)) none = zs.drop 1 from cutFromL zs 1 (by omega)]
    have t2 := Same.new (o := .lst (zs.drop 1)) nc2
    have t12 := t1.trans t2
    refine ⟨.ref rl, rfl, .int pz, rfl, rl, xs, pz, .ref p, rfl, rfl, SqL.of (t12 _ _ B6.hr), hat, sz (by show 2 ≤ 100000; decide), fun p1 np1 => ⟨sz (by show 1 ≤ 100000; decide), fun p2 np2 => ?_⟩⟩
    have t3 := Same.new (o := .tup [.int 0, .int 1]) np1
    have t4 := Same.new (o := .lst [.ref p1]) np2
    have t14 := t12.trans (t3.trans t4)
    refine ⟨p, p2, zs, _, rfl, rfl, t14 _ _ hp, upd_same, sz (by show _ + 1 ≤ _; omega), fun c3 nc3 => ⟨sz (by show 2 ≤ 100000; decide), fun cl ncl => ?_⟩⟩
    have t5 := Same.new (o := .lst (zs ++ [.ref p1])) nc3
    have t6 := Same.new (o := .lst [.ref c2, .ref c3]) ncl
    have t16 := t14.trans (t5.trans t6)
    have B7 := B6.same t16
    have hc1 := (t2.trans ((t3.trans t4).trans (t5.trans t6))) _ _ (show (upd H6 c1 (.lst (xs.take pz.toNat))) c1 = _ from upd_same)
    have hc2 := ((t3.trans t4).trans (t5.trans t6)) _ _ (show (upd (upd H6 c1 (.lst (xs.take pz.toNat))) c2 (.lst (zs.drop 1))) c2 = _ from upd_same)
    have hc3 := t6 _ _ (show (upd (upd (upd (upd (upd H6 c1 (.lst (xs.take pz.toNat))) c2 (.lst (zs.drop 1))) p1 (.tup [.int 0, .int 1])) p2 (.lst [.ref p1])) c3 (.lst (zs ++ [.ref p1]))) c3 = _ from upd_same)
    have c1r : c1 ≠ r := B6.R.ne nc1
    have c2r : c2 ≠ r := (B6.R.same t1).ne nc2
    have c3r : c3 ≠ r := (B6.R.same t14).ne nc3
    refine ⟨r, .ref cl, _, rfl, B7.R, .inl ⟨cl, rfl, (B6.R.same (t14.trans t5)).ne ncl, .inl (SqL.of upd_same)⟩, by show 0 < 2; decide, by show 2 ≤ 100000; decide, fun y hy H8 k8 R8 => ?_⟩
    have B8 := B7.kp k8 R8
    have hc18 := k8.1 _ _ c1r hc1
    obtain ⟨yn, us, rfl, ynr, hyn, ul⟩ : ∃ yn us, y = .ref yn ∧ yn ≠ r ∧ H8 yn = some (.lst us) ∧ us.length ≠ wd := by
      simp only [List.mem_cons, List.not_mem_nil, or_false] at hy
      rcases hy with rfl | rfl
      · exact ⟨c2, _, rfl, c2r, k8.1 _ _ c2r hc2, by rw [List.length_drop]; omega⟩
      · exact ⟨c3, _, rfl, c3r, k8.1 _ _ c3r hc3, by rw [List.length_append]; show zs.length + 1 ≠ wd; omega⟩
    refine ⟨sz (by show 1 ≤ 100000; decide), fun q1' nq1 => ?_⟩
    have v1 := Same.new (o := .lst [.ref yn]) nq1
    refine ⟨c1, q1', _, _, rfl, rfl, v1 _ _ hc18, upd_same, sz (by rw [List.length_take]; show _ + 1 ≤ _; omega), fun c4 nc4 => ?_⟩
    have v2 := Same.new (o := .lst (xs.take pz.toNat ++ [.ref yn])) nc4
    have v12 := v1.trans v2
    refine ⟨.ref rl, rfl, .int pz, rfl, pz, 1, rfl, rfl, _, rfl, rl, xs, rfl, SqL.of (v12 _ _ B8.hr), fun c5 nc5 => ?_⟩
    rw [cd]
    have v3 := Same.new (o := .lst (xs.drop (pz.toNat + 1))) nc5
    refine ⟨c4, c5, _, _, rfl, rfl, v3 _ _ upd_same, upd_same, sz (by rw [List.length_append, List.length_take, List.length_drop, List.length_singleton]; omega), fun c6 nc6 => ?_⟩
    have v4 := Same.new (o := .lst (xs.take pz.toNat ++ [.ref yn] ++ xs.drop (pz.toNat + 1))) nc6
    have v14 := v12.trans (v3.trans v4)
    refine ⟨.int pz, rfl, sz (by show 2 ≤ 100000; decide), fun e1 ne1 => ⟨sz (by show 2 ≤ 100000; decide), fun tp ntp => ⟨tp, _, rfl, sqN ntp, rfl, _, _, rfl, _, _, rfl, rfl, ?_⟩⟩⟩
    have u1 := Same.new (o := .tup [.str "InvalidShape", .int pz]) ne1
    have u2 := Same.new (o := .tup [.ref c6, .ref e1]) ntp
    have B9 := B8.same (v14.trans (u1.trans u2))
    have c6r : c6 ≠ r := (B8.R.same (v12.trans v3)).ne nc6
    have hyn9 := (v14.trans (u1.trans u2)) _ _ hyn
    have hLs := ((B9.L.take pz.toNat).app (LenP.one ynr hyn9)).app (B9.L.drop (pz.toNat + 1))
    rw [List.take_replicate, List.drop_replicate, Nat.min_eq_left (by omega)] at hLs
    refine hDE _ _ ⟨c6, _, e1, _, rfl, ⟨B9.R, B9.T, c6r, B9.tr, (u1.trans u2) _ _ upd_same, B9.ht, hLs⟩, ?_, .inr ⟨pz.toNat, ?_, shErr_row (by omega) ul⟩⟩
    · rw [List.length_append, List.length_append, List.length_take, List.length_drop, List.length_singleton]; omega
    · rw [← pe]
      exact Same.T u2 (sqN ne1)
  clear B6 hE
  rintro σ H7 ⟨rl, xs, e, ls, rfl, B7, xl20, hE⟩
  rcases hE with he | ⟨j, he, hj⟩
  · exact ⟨.ref e, rfl, e, _, 0, _, rfl, rfl, he, atI_nat (j := 0) rfl, rfl, _, rfl, ifT (decide_eq_true rfl) ⟨_, _, _, _, _, _, _, rfl, B7.R, B7.T⟩⟩
  refine ⟨.ref e, rfl, e, _, 0, _, rfl, rfl, he, atI_nat (j := 0) rfl, rfl, _, rfl, ifF (str_no (by decide +kernel)) ?_⟩
  refine both (te := LamX.tLam _ _ _) (fun o H' => S21 K a H' r rl tl xs ys ls ∧ SqT K H' e [.str "InvalidShape", .int (j : Nat)] ∧ ∃ p, o = .ref p ∧ SqT K H' p [.str "InvalidShape", .int (j : Nat)]) (fun o1 HG hG => ?_) (fun Q' hQ => ?_)
  rotate_left
  · refine ⟨B7.T, fun HD eD TD HF sF => ?_⟩
    have BF := (B7.ext eD TD).same sF
    have EF := Same.T sF (ExtN.T eD he)
    refine ⟨.ref rl, rfl, .ref tl, rfl, rl, tl, xs, ys, ls, j, rfl, BF.hr, BF.ht, BF.L.lens, by omega, hj, fun dd H' s' ndd hdd => ?_⟩
    refine ⟨a.C_InvalidShape, dd, _, "InvalidShape", rfl, rfl, hdd, rfl, T.xC_InvalidShape, T.no_InvalidShape_tag, .inr ⟨T.em_InvalidShape_GaitError, "pos", .int (j : Nat), (by decide +kernel : (("InvalidShape" : Str), ("pos" : Str)) ∈ efTab), rfl, T.no_InvalidShape_pos, fun p H2 s2 np hp => tte_q (SqT.of hp) fun c nc => hQ _ _ ?_⟩⟩
    have sG := s'.trans (s2.trans (Same.new (o := .tup [.str "InvalidShape", .int (j : Nat)]) nc))
    exact ⟨BF.same sG, Same.T sG EF, c, rfl, sqN nc⟩
  obtain ⟨BG, EG, pG, rfl, OG⟩ := hG
  clear B7 he
  refine both (te := LamX.tLam _ _ _) (fun o H' => S21 K a H' r rl tl xs ys ls ∧ SqT K H' e [.str "InvalidShape", .int (j : Nat)] ∧ SqT K H' pG [.str "InvalidShape", .int (j : Nat)] ∧ ∃ p, o = .ref p ∧ SqT K H' p [.str "InvalidShape", .int (j : Nat)]) (fun o2 HI hI => ?_) (fun Q' hQ => ?_)
  rotate_left
  · refine ⟨BG.T, fun HD eD TD HF sF => ?_⟩
    have BF := (BG.ext eD TD).same sF
    have EF := Same.T sF (ExtN.T eD EG)
    have OF := Same.T sF (ExtN.T eD OG)
    refine ⟨.ref rl, rfl, .ref tl, rfl, sz (by show 0 ≤ 100000; decide), fun l0 nl0 => ⟨sz (by show 2 ≤ 100000; decide), fun t nt => ?_⟩⟩
    have z0 := (Same.new (o := .lst []) nl0).trans (Same.new (o := .tup [.str "solution", .ref l0]) nt)
    refine ⟨.ref t, rl, tl, xs, ys, ls, j, rfl, z0 _ _ BF.hr, z0 _ _ BF.ht, (BF.L.same z0).lens, by omega, hj, fun dd H' s' ndd hdd => ?_⟩
    refine ⟨a.C_InvalidShape, dd, _, "InvalidShape", rfl, rfl, hdd, rfl, T.xC_InvalidShape, T.no_InvalidShape_tag, .inr ⟨T.em_InvalidShape_GaitError, "pos", .int (j : Nat), (by decide +kernel : (("InvalidShape" : Str), ("pos" : Str)) ∈ efTab), rfl, T.no_InvalidShape_pos, fun p H2 s2 np hp => tte_q (SqT.of hp) fun c nc => hQ _ _ ?_⟩⟩
    have sG := z0.trans (s'.trans (s2.trans (Same.new (o := .tup [.str "InvalidShape", .int (j : Nat)]) nc)))
    exact ⟨BF.same sG, Same.T sG EF, Same.T sG OF, c, rfl, sqN nc⟩
  obtain ⟨BI, EI, OI, pI, rfl, PI⟩ := hI
  clear BG EG OG
  refine ⟨sz (by show 2 ≤ 100000; decide), fun g ng => ?_⟩
  have sg := Same.new (o := .lst [.ref pG, .ref pI]) ng
  refine ⟨.ref g, rfl, .ref e, rfl, .ref e, rfl, sz (by show 2 ≤ 100000; decide), fun g2 ng2 => ?_⟩
  have sg2 := Same.new (o := .lst [.ref e, .ref e]) ng2
  have s12 := sg.trans sg2
  have tw : ∀ {H : Hp} {x y : Addr}, SqT K H x [.str "InvalidShape", .int (j : Nat)] → SqT K H y [.str "InvalidShape", .int (j : Nat)] → Eqd K H 1 (.ref x) (.ref y) := fun h k => Eqd.tup (n := 0) h k rfl (by show 2 ≤ 100000; decide) (all2_cons (Eqd.atom rfl) (all2_cons (Eqd.atom rfl) all2_nil))
  refine ⟨.ref g, .ref g2, rfl, Eqd.mono (Eqd.lst (n := 1) (SqL.of (sg2 _ _ upd_same)) (SqL.of upd_same) rfl (by show 2 ≤ 100000; decide) (all2_cons (tw (Same.T s12 OI) (Same.T s12 EI)) (all2_cons (tw (Same.T s12 PI) (Same.T s12 EI)) all2_nil))) (by decide), fun HJ sJ => ⟨true, rfl, ifF rfl ?_⟩⟩
  have BJ := BI.same (s12.trans sJ)
  exact ⟨_, _, _, _, _, _, _, rfl, BJ.R, BJ.T⟩
end
theorem all_mk {l : PySem.W.OpenLaw} {w : World} {K : PySem.W.Frag} {h : Heap} {mg : Str → Option Value} {fa : Addr} (X : K.In h) (G : h.Ns mainGlobals mg) (hfa : mg "law" = some (.ref fa))
    (OT : LamX.OwnTab K fa h)
    {od0 an0 : Option Addr} {sl0 : Array (Option Value)} {oc0 kV0 dc0 pm0 cd0 ct0 : Value} {f0 : Addr}
    {od1 an1 : Option Addr} {sl1 : Array (Option Value)} {oc1 kV1 dc1 pm1 cd1 ct1 : Value} {f1 : Addr}
    {od2 an2 : Option Addr} {sl2 : Array (Option Value)} {oc2 kV2 dc2 pm2 cd2 ct2 : Value} {f2 : Addr}
    {od3 an3 : Option Addr} {sl3 : Array (Option Value)} {oc3 kV3 dc3 pm3 cd3 ct3 : Value} {f3 : Addr}
    {od4 an4 : Option Addr} {sl4 : Array (Option Value)} {oc4 kV4 dc4 pm4 cd4 ct4 : Value} {f4 : Addr}
    {od5 an5 : Option Addr} {sl5 : Array (Option Value)} {oc5 kV5 dc5 pm5 cd5 ct5 : Value} {f5 : Addr}
    {od6 an6 : Option Addr} {sl6 : Array (Option Value)} {oc6 kV6 dc6 pm6 cd6 ct6 : Value} {f6 : Addr}
    {od7 an7 : Option Addr} {sl7 : Array (Option Value)} {oc7 kV7 dc7 pm7 cd7 ct7 : Value} {f7 : Addr}
    {od8 an8 : Option Addr} {sl8 : Array (Option Value)} {oc8 kV8 dc8 pm8 cd8 ct8 : Value} {f8 : Addr}
    {od9 an9 : Option Addr} {sl9 : Array (Option Value)} {oc9 kV9 dc9 pm9 cd9 ct9 : Value} {f9 : Addr}
    {od10 an10 : Option Addr} {sl10 : Array (Option Value)} {oc10 kV10 dc10 pm10 cd10 ct10 : Value} {f10 : Addr}
    {od11 an11 : Option Addr} {sl11 : Array (Option Value)} {oc11 kV11 dc11 pm11 cd11 ct11 : Value} {f11 : Addr}
    {od12 an12 : Option Addr} {sl12 : Array (Option Value)} {oc12 kV12 dc12 pm12 cd12 ct12 : Value} {f12 : Addr}
    {od13 an13 : Option Addr} {sl13 : Array (Option Value)} {oc13 kV13 dc13 pm13 cd13 ct13 : Value} {f13 : Addr}
    {od14 an14 : Option Addr} {sl14 : Array (Option Value)} {oc14 kV14 dc14 pm14 cd14 ct14 : Value} {f14 : Addr}
    {od15 an15 : Option Addr} {sl15 : Array (Option Value)} {oc15 kV15 dc15 pm15 cd15 ct15 : Value} {f15 : Addr}
    {od16 an16 : Option Addr} {sl16 : Array (Option Value)} {oc16 kV16 dc16 pm16 cd16 ct16 : Value} {f16 : Addr}
    {od17 an17 : Option Addr} {sl17 : Array (Option Value)} {oc17 kV17 dc17 pm17 cd17 ct17 : Value} {f17 : Addr}
    {od18 an18 : Option Addr} {sl18 : Array (Option Value)} {oc18 kV18 dc18 pm18 cd18 ct18 : Value} {f18 : Addr}
    {od19 an19 : Option Addr} {sl19 : Array (Option Value)} {oc19 kV19 dc19 pm19 cd19 ct19 : Value} {f19 : Addr}
    {od20 an20 : Option Addr} {sl20 : Array (Option Value)} {oc20 kV20 dc20 pm20 cd20 ct20 : Value} {f20 : Addr}
    {od21 an21 : Option Addr} {sl21 : Array (Option Value)} {oc21 kV21 dc21 pm21 cd21 ct21 : Value} {f21 : Addr}
    {od22 an22 : Option Addr} {sl22 : Array (Option Value)} {oc22 kV22 dc22 pm22 cd22 ct22 : Value} {f22 : Addr}
    {od23 an23 : Option Addr} {sl23 : Array (Option Value)} {oc23 kV23 dc23 pm23 cd23 ct23 : Value} {f23 : Addr}
    {od24 an24 : Option Addr} {sl24 : Array (Option Value)} {oc24 kV24 dc24 pm24 cd24 ct24 : Value} {f24 : Addr}
    {od25 an25 : Option Addr} {sl25 : Array (Option Value)} {oc25 kV25 dc25 pm25 cd25 ct25 : Value} {f25 : Addr}
    {od26 an26 : Option Addr} {sl26 : Array (Option Value)} {oc26 kV26 dc26 pm26 cd26 ct26 : Value} {f26 : Addr}
    {od27 an27 : Option Addr} {sl27 : Array (Option Value)} {oc27 kV27 dc27 pm27 cd27 ct27 : Value} {f27 : Addr}
    {od28 an28 : Option Addr} {sl28 : Array (Option Value)} {oc28 kV28 dc28 pm28 cd28 ct28 : Value} {f28 : Addr}
    {od29 an29 : Option Addr} {sl29 : Array (Option Value)} {oc29 kV29 dc29 pm29 cd29 ct29 : Value} {f29 : Addr}
    {od30 an30 : Option Addr} {sl30 : Array (Option Value)} {oc30 kV30 dc30 pm30 cd30 ct30 : Value} {f30 : Addr}
    {od31 an31 : Option Addr} {sl31 : Array (Option Value)} {oc31 kV31 dc31 pm31 cd31 ct31 : Value} {f31 : Addr}
    {od32 an32 : Option Addr} {sl32 : Array (Option Value)} {oc32 kV32 dc32 pm32 ct32 : Value} {f32 : Addr}
    {cL tL : Addr} {odc : Option Addr} {vsc : Array Value} {slc : Array (Option Value)} {fl : Str} {fg tx : Int} {inF : Bool} {tfl tg tt : Tok} {C_GaitError C_NotFound C_ZeroDenominator C_EmptyHistory C_InvalidShape : Addr}
    {dT0 : Addr} {do0 : Option Addr} {dn0 : Nat} {ds0 : Array (Option Value)} {dt0_0 dt0_1 : Tok}
    {dT6 : Addr} {do6 : Option Addr} {dn6 : Nat} {ds6 : Array (Option Value)} {dt6_0 : Tok}
    {o_ZERO : Addr} {od_ZERO : Option Addr} {on_ZERO : Nat} {os_ZERO : Array (Option Value)} {tk_ZERO_0 tk_ZERO_1 : Tok}
    (gc_GaitError : PySem.W.nsIn K mainGlobals "GaitError" = some (some (.ref C_GaitError)))
    (gc_NotFound : PySem.W.nsIn K mainGlobals "NotFound" = some (some (.ref C_NotFound)))
    (gc_ZeroDenominator : PySem.W.nsIn K mainGlobals "ZeroDenominator" = some (some (.ref C_ZeroDenominator)))
    (gc_EmptyHistory : PySem.W.nsIn K mainGlobals "EmptyHistory" = some (some (.ref C_EmptyHistory)))
    (gc_InvalidShape : PySem.W.nsIn K mainGlobals "InvalidShape" = some (some (.ref C_InvalidShape)))
    (x1_ZeroDenominator : PySem.W.excInitIn K C_ZeroDenominator [.type "ZeroDivisionError", .type "ArithmeticError", .type "Exception", .type "BaseException", .type "object"] "ZeroDivisionError.__new__" = true)
    (x2_ZeroDenominator : PySem.W.excOver K C_ZeroDenominator [.type "ZeroDivisionError", .type "ArithmeticError", .type "Exception", .type "BaseException", .type "object"] = true)
    (x3_ZeroDenominator : PySem.W.hasDictIn K C_ZeroDenominator = true)
    (x4_ZeroDenominator : PySem.W.findIn K (.ref C_ZeroDenominator) "__setattr__" = some (some (.builtin "object.__setattr__")))
    (x5_ZeroDenominator : PySem.W.subIn K (.ref C_ZeroDenominator) (.type "BaseException") = some true)
    (x6_ZeroDenominator : PySem.W.typeIn K (.ref C_ZeroDenominator) = some (.type "type"))
    (x7_ZeroDenominator : PySem.W.keepIn K (.ref C_ZeroDenominator) = true)
    (x8_ZeroDenominator : PySem.W.findIn K (.ref C_ZeroDenominator) "__getattribute__" = some (some (.builtin "BaseException.__getattribute__")))
    (x9_ZeroDenominator : PySem.W.findIn K (.ref C_ZeroDenominator) "__getattr__" = some none)
    (no_ZeroDenominator_tag : PySem.W.findIn K (.ref C_ZeroDenominator) "tag" = some none)
    (s_ZeroDenominator_GaitError : PySem.W.subIn K (.ref C_ZeroDenominator) (.ref C_GaitError) = some false)
    (s_ZeroDenominator_NotFound : PySem.W.subIn K (.ref C_ZeroDenominator) (.ref C_NotFound) = some false)
    (s_ZeroDenominator_ZeroDenominator : PySem.W.subIn K (.ref C_ZeroDenominator) (.ref C_ZeroDenominator) = some true)
    (s_ZeroDenominator_EmptyHistory : PySem.W.subIn K (.ref C_ZeroDenominator) (.ref C_EmptyHistory) = some false)
    (x1_InvalidShape : PySem.W.excInitIn K C_InvalidShape [.type "ValueError", .type "Exception", .type "BaseException", .type "object"] "ValueError.__new__" = true)
    (x2_InvalidShape : PySem.W.excOver K C_InvalidShape [.type "ValueError", .type "Exception", .type "BaseException", .type "object"] = true)
    (x3_InvalidShape : PySem.W.hasDictIn K C_InvalidShape = true)
    (x4_InvalidShape : PySem.W.findIn K (.ref C_InvalidShape) "__setattr__" = some (some (.builtin "object.__setattr__")))
    (x5_InvalidShape : PySem.W.subIn K (.ref C_InvalidShape) (.type "BaseException") = some true)
    (x6_InvalidShape : PySem.W.typeIn K (.ref C_InvalidShape) = some (.type "type"))
    (x7_InvalidShape : PySem.W.keepIn K (.ref C_InvalidShape) = true)
    (x8_InvalidShape : PySem.W.findIn K (.ref C_InvalidShape) "__getattribute__" = some (some (.builtin "BaseException.__getattribute__")))
    (x9_InvalidShape : PySem.W.findIn K (.ref C_InvalidShape) "__getattr__" = some none)
    (no_InvalidShape_tag : PySem.W.findIn K (.ref C_InvalidShape) "tag" = some none)
    (no_InvalidShape_pos : PySem.W.findIn K (.ref C_InvalidShape) "pos" = some none)
    (s_InvalidShape_GaitError : PySem.W.subIn K (.ref C_InvalidShape) (.ref C_GaitError) = some true)
    (s_InvalidShape_NotFound : PySem.W.subIn K (.ref C_InvalidShape) (.ref C_NotFound) = some false)
    (s_InvalidShape_ZeroDenominator : PySem.W.subIn K (.ref C_InvalidShape) (.ref C_ZeroDenominator) = some false)
    (s_InvalidShape_EmptyHistory : PySem.W.subIn K (.ref C_InvalidShape) (.ref C_EmptyHistory) = some false)
    (y1_GaitError : PySem.W.subIn K (.ref C_GaitError) (.type "BaseException") = some true)
    (y2_GaitError : PySem.W.hasDictIn K C_GaitError = true)
    (y3_GaitError : PySem.W.typeIn K (.ref C_GaitError) = some (.type "type"))
    (y1_NotFound : PySem.W.subIn K (.ref C_NotFound) (.type "BaseException") = some true)
    (y2_NotFound : PySem.W.hasDictIn K C_NotFound = true)
    (y3_NotFound : PySem.W.typeIn K (.ref C_NotFound) = some (.type "type"))
    (y1_ZeroDenominator : PySem.W.subIn K (.ref C_ZeroDenominator) (.type "BaseException") = some true)
    (y2_ZeroDenominator : PySem.W.hasDictIn K C_ZeroDenominator = true)
    (y3_ZeroDenominator : PySem.W.typeIn K (.ref C_ZeroDenominator) = some (.type "type"))
    (y1_EmptyHistory : PySem.W.subIn K (.ref C_EmptyHistory) (.type "BaseException") = some true)
    (y2_EmptyHistory : PySem.W.hasDictIn K C_EmptyHistory = true)
    (y3_EmptyHistory : PySem.W.typeIn K (.ref C_EmptyHistory) = some (.type "type"))
    (rd_GaitError : PySem.W.readsIn K C_GaitError (.type "type") = true)
    (sg_GaitError : PySem.W.specialIn K (.ref C_GaitError) "__getattribute__" = some (some (.builtin "type.__getattribute__")))
    (vV_ValueError : PySem.W.findCls K (.type "ValueError") (.type "type") "__init__" = some (.val (.builtin "ValueError.__init__")))
    (vV_ZeroDivisionError : PySem.W.findCls K (.type "ZeroDivisionError") (.type "type") "__init__" = some (.val (.builtin "ZeroDivisionError.__init__")))
    (a0 : PySem.W.findIn K (.ref C_GaitError) "__init__" = some (some (.ref f0)))
    (l0 : K.lookup f0 = some ⟨oc0, od0, .func (PySem.W.fnOf "__init__" "GaitError.__init__" (defArgs s_i_GaitError) (defBody s_i_GaitError) (defScope s_i_GaitError) (.ref dT0) kV0 dc0 pm0 an0 cd0 ct0), sl0⟩) (c0 : PySem.W.codeIn K cd0 "GaitError.__init__" = true) (k0 : PySem.W.keepIn K (.ref f0) = true)
    (t0 : PySem.W.typeIn K (.ref f0) = some (.type "function"))
    (fc0 : PySem.W.findCls K (.ref C_GaitError) (.type "type") "__init__" = some (.val (.ref f0)))
    (d0 : K.lookup dT0 = some ⟨.type "tuple", do0, .seq #[.str "GaitError" dt0_0, .str "" dt0_1] dn0, ds0⟩)
    (a1 : PySem.W.findIn K (.ref C_InvalidShape) "__init__" = some (some (.ref f1)))
    (l1 : K.lookup f1 = some ⟨oc1, od1, .func (PySem.W.fnOf "__init__" "InvalidShape.__init__" (defArgs s_i_InvalidShape) (defBody s_i_InvalidShape) (defScope s_i_InvalidShape) .none kV1 dc1 pm1 an1 cd1 ct1), sl1⟩) (c1 : PySem.W.codeIn K cd1 "InvalidShape.__init__" = true) (k1 : PySem.W.keepIn K (.ref f1) = true)
    (t1 : PySem.W.typeIn K (.ref f1) = some (.type "function"))
    (a2 : PySem.W.findIn K (.ref C_ZeroDenominator) "__init__" = some (some (.ref f2)))
    (l2 : K.lookup f2 = some ⟨oc2, od2, .func (PySem.W.fnOf "__init__" "ZeroDenominator.__init__" (defArgs s_i_ZeroDenominator) (defBody s_i_ZeroDenominator) (defScope s_i_ZeroDenominator) .none kV2 dc2 pm2 an2 cd2 ct2), sl2⟩) (c2 : PySem.W.codeIn K cd2 "ZeroDenominator.__init__" = true) (k2 : PySem.W.keepIn K (.ref f2) = true)
    (t2 : PySem.W.typeIn K (.ref f2) = some (.type "function"))
    (a3 : PySem.W.nsIn K mainGlobals "greatest_divisor" = some (some (.ref f3)))
    (l3 : K.lookup f3 = some ⟨oc3, od3, .func (PySem.W.fnOf "greatest_divisor" "greatest_divisor" (defArgs s_p_greatest_divisor) (defBody s_p_greatest_divisor) (defScope s_p_greatest_divisor) .none kV3 dc3 pm3 an3 cd3 ct3), sl3⟩) (c3 : PySem.W.codeIn K cd3 "greatest_divisor" = true) (k3 : PySem.W.keepIn K (.ref f3) = true)
    (a4 : PySem.W.nsIn K mainGlobals "least_multiple" = some (some (.ref f4)))
    (l4 : K.lookup f4 = some ⟨oc4, od4, .func (PySem.W.fnOf "least_multiple" "least_multiple" (defArgs s_p_least_multiple) (defBody s_p_least_multiple) (defScope s_p_least_multiple) .none kV4 dc4 pm4 an4 cd4 ct4), sl4⟩) (c4 : PySem.W.codeIn K cd4 "least_multiple" = true) (k4 : PySem.W.keepIn K (.ref f4) = true)
    (a5 : PySem.W.nsIn K mainGlobals "common_denominator" = some (some (.ref f5)))
    (l5 : K.lookup f5 = some ⟨oc5, od5, .func (PySem.W.fnOf "common_denominator" "common_denominator" (defArgs s_p_common_denominator) (defBody s_p_common_denominator) (defScope s_p_common_denominator) .none kV5 dc5 pm5 an5 cd5 ct5), sl5⟩) (c5 : PySem.W.codeIn K cd5 "common_denominator" = true) (k5 : PySem.W.keepIn K (.ref f5) = true)
    (a6 : PySem.W.nsIn K mainGlobals "fraction" = some (some (.ref f6)))
    (l6 : K.lookup f6 = some ⟨oc6, od6, .func (PySem.W.fnOf "fraction" "fraction" (defArgs s_p_fraction) (defBody s_p_fraction) (defScope s_p_fraction) (.ref dT6) kV6 dc6 pm6 an6 cd6 ct6), sl6⟩) (c6 : PySem.W.codeIn K cd6 "fraction" = true) (k6 : PySem.W.keepIn K (.ref f6) = true)
    (d6 : K.lookup dT6 = some ⟨.type "tuple", do6, .seq #[.int 1 dt6_0] dn6, ds6⟩)
    (a7 : PySem.W.nsIn K mainGlobals "check_shape" = some (some (.ref f7)))
    (l7 : K.lookup f7 = some ⟨oc7, od7, .func (PySem.W.fnOf "check_shape" "check_shape" (defArgs s_p_check_shape) (defBody s_p_check_shape) (defScope s_p_check_shape) .none kV7 dc7 pm7 an7 cd7 ct7), sl7⟩) (c7 : PySem.W.codeIn K cd7 "check_shape" = true) (k7 : PySem.W.keepIn K (.ref f7) = true)
    (a8 : PySem.W.nsIn K mainGlobals "columns_of" = some (some (.ref f8)))
    (l8 : K.lookup f8 = some ⟨oc8, od8, .func (PySem.W.fnOf "columns_of" "columns_of" (defArgs s_p_columns_of) (defBody s_p_columns_of) (defScope s_p_columns_of) .none kV8 dc8 pm8 an8 cd8 ct8), sl8⟩) (c8 : PySem.W.codeIn K cd8 "columns_of" = true) (k8 : PySem.W.keepIn K (.ref f8) = true)
    (a9 : PySem.W.nsIn K mainGlobals "as_integers" = some (some (.ref f9)))
    (l9 : K.lookup f9 = some ⟨oc9, od9, .func (PySem.W.fnOf "as_integers" "as_integers" (defArgs s_p_as_integers) (defBody s_p_as_integers) (defScope s_p_as_integers) .none kV9 dc9 pm9 an9 cd9 ct9), sl9⟩) (c9 : PySem.W.codeIn K cd9 "as_integers" = true) (k9 : PySem.W.keepIn K (.ref f9) = true)
    (a10 : PySem.W.nsIn K mainGlobals "clear_column" = some (some (.ref f10)))
    (l10 : K.lookup f10 = some ⟨oc10, od10, .func (PySem.W.fnOf "clear_column" "clear_column" (defArgs s_p_clear_column) (defBody s_p_clear_column) (defScope s_p_clear_column) .none kV10 dc10 pm10 an10 cd10 ct10), sl10⟩) (c10 : PySem.W.codeIn K cd10 "clear_column" = true) (k10 : PySem.W.keepIn K (.ref f10) = true)
    (a11 : PySem.W.nsIn K mainGlobals "first_nonzero" = some (some (.ref f11)))
    (l11 : K.lookup f11 = some ⟨oc11, od11, .func (PySem.W.fnOf "first_nonzero" "first_nonzero" (defArgs s_p_first_nonzero) (defBody s_p_first_nonzero) (defScope s_p_first_nonzero) .none kV11 dc11 pm11 an11 cd11 ct11), sl11⟩) (c11 : PySem.W.codeIn K cd11 "first_nonzero" = true) (k11 : PySem.W.keepIn K (.ref f11) = true)
    (a12 : PySem.W.nsIn K mainGlobals "eliminate" = some (some (.ref f12)))
    (l12 : K.lookup f12 = some ⟨oc12, od12, .func (PySem.W.fnOf "eliminate" "eliminate" (defArgs s_p_eliminate) (defBody s_p_eliminate) (defScope s_p_eliminate) .none kV12 dc12 pm12 an12 cd12 ct12), sl12⟩) (c12 : PySem.W.codeIn K cd12 "eliminate" = true) (k12 : PySem.W.keepIn K (.ref f12) = true)
    (a13 : PySem.W.nsIn K mainGlobals "solution_of" = some (some (.ref f13)))
    (l13 : K.lookup f13 = some ⟨oc13, od13, .func (PySem.W.fnOf "solution_of" "solution_of" (defArgs s_p_solution_of) (defBody s_p_solution_of) (defScope s_p_solution_of) .none kV13 dc13 pm13 an13 cd13 ct13), sl13⟩) (c13 : PySem.W.codeIn K cd13 "solution_of" = true) (k13 : PySem.W.keepIn K (.ref f13) = true)
    (a14 : PySem.W.nsIn K mainGlobals "solve_linear" = some (some (.ref f14)))
    (l14 : K.lookup f14 = some ⟨oc14, od14, .func (PySem.W.fnOf "solve_linear" "solve_linear" (defArgs s_p_solve_linear) (defBody s_p_solve_linear) (defScope s_p_solve_linear) .none kV14 dc14 pm14 an14 cd14 ct14), sl14⟩) (c14 : PySem.W.codeIn K cd14 "solve_linear" = true) (k14 : PySem.W.keepIn K (.ref f14) = true)
    (a15 : PySem.W.nsIn K mainGlobals "cancels" = some (some (.ref f15)))
    (l15 : K.lookup f15 = some ⟨oc15, od15, .func (PySem.W.fnOf "cancels" "cancels" (defArgs s_p_cancels) (defBody s_p_cancels) (defScope s_p_cancels) .none kV15 dc15 pm15 an15 cd15 ct15), sl15⟩) (c15 : PySem.W.codeIn K cd15 "cancels" = true) (k15 : PySem.W.keepIn K (.ref f15) = true)
    (a16 : PySem.W.nsIn K mainGlobals "is_solution" = some (some (.ref f16)))
    (l16 : K.lookup f16 = some ⟨oc16, od16, .func (PySem.W.fnOf "is_solution" "is_solution" (defArgs s_p_is_solution) (defBody s_p_is_solution) (defScope s_p_is_solution) .none kV16 dc16 pm16 an16 cd16 ct16), sl16⟩) (c16 : PySem.W.codeIn K cd16 "is_solution" = true) (k16 : PySem.W.keepIn K (.ref f16) = true)
    (a17 : PySem.W.nsIn K mainGlobals "is_certificate" = some (some (.ref f17)))
    (l17 : K.lookup f17 = some ⟨oc17, od17, .func (PySem.W.fnOf "is_certificate" "is_certificate" (defArgs s_p_is_certificate) (defBody s_p_is_certificate) (defScope s_p_is_certificate) .none kV17 dc17 pm17 an17 cd17 ct17), sl17⟩) (c17 : PySem.W.codeIn K cd17 "is_certificate" = true) (k17 : PySem.W.keepIn K (.ref f17) = true)
    (a18 : PySem.W.nsIn K mainGlobals "check_solution" = some (some (.ref f18)))
    (l18 : K.lookup f18 = some ⟨oc18, od18, .func (PySem.W.fnOf "check_solution" "check_solution" (defArgs s_p_check_solution) (defBody s_p_check_solution) (defScope s_p_check_solution) .none kV18 dc18 pm18 an18 cd18 ct18), sl18⟩) (c18 : PySem.W.codeIn K cd18 "check_solution" = true) (k18 : PySem.W.keepIn K (.ref f18) = true)
    (a19 : PySem.W.nsIn K mainGlobals "_law_source" = some (some (.ref f19)))
    (l19 : K.lookup f19 = some ⟨oc19, od19, .func (PySem.W.fnOf "_law_source" "_law_source" (defArgs s_l_source) (defBody s_l_source) (defScope s_l_source) .none kV19 dc19 pm19 an19 cd19 ct19), sl19⟩) (c19 : PySem.W.codeIn K cd19 "_law_source" = true) (k19 : PySem.W.keepIn K (.ref f19) = true)
    (a20 : PySem.W.nsIn K mainGlobals "_law_draw" = some (some (.ref f20)))
    (l20 : K.lookup f20 = some ⟨oc20, od20, .func (PySem.W.fnOf "_law_draw" "_law_draw" (defArgs s_l_draw) (defBody s_l_draw) (defScope s_l_draw) .none kV20 dc20 pm20 an20 cd20 ct20), sl20⟩) (c20 : PySem.W.codeIn K cd20 "_law_draw" = true) (k20 : PySem.W.keepIn K (.ref f20) = true)
    (a21 : PySem.W.nsIn K mainGlobals "_law_choice" = some (some (.ref f21)))
    (l21 : K.lookup f21 = some ⟨oc21, od21, .func (PySem.W.fnOf "_law_choice" "_law_choice" (defArgs s_l_choice) (defBody s_l_choice) (defScope s_l_choice) .none kV21 dc21 pm21 an21 cd21 ct21), sl21⟩) (c21 : PySem.W.codeIn K cd21 "_law_choice" = true) (k21 : PySem.W.keepIn K (.ref f21) = true)
    (a22 : PySem.W.nsIn K mainGlobals "_law_equal" = some (some (.ref f22)))
    (l22 : K.lookup f22 = some ⟨oc22, od22, .func (PySem.W.fnOf "_law_equal" "_law_equal" (defArgs s_l_equal) (defBody s_l_equal) (defScope s_l_equal) .none kV22 dc22 pm22 an22 cd22 ct22), sl22⟩) (c22 : PySem.W.codeIn K cd22 "_law_equal" = true) (k22 : PySem.W.keepIn K (.ref f22) = true)
    (a23 : PySem.W.nsIn K mainGlobals "_law_error_field" = some (some (.ref f23)))
    (l23 : K.lookup f23 = some ⟨oc23, od23, .func (PySem.W.fnOf "_law_error_field" "_law_error_field" (defArgs s_l_error_field) (defBody s_l_error_field) (defScope s_l_error_field) .none kV23 dc23 pm23 an23 cd23 ct23), sl23⟩) (c23 : PySem.W.codeIn K cd23 "_law_error_field" = true) (k23 : PySem.W.keepIn K (.ref f23) = true)
    (a24 : PySem.W.nsIn K mainGlobals "_law_outcome" = some (some (.ref f24)))
    (l24 : K.lookup f24 = some ⟨oc24, od24, .func (PySem.W.fnOf "_law_outcome" "_law_outcome" (defArgs s_l_outcome) (defBody s_l_outcome) (defScope s_l_outcome) .none kV24 dc24 pm24 an24 cd24 ct24), sl24⟩) (c24 : PySem.W.codeIn K cd24 "_law_outcome" = true) (k24 : PySem.W.keepIn K (.ref f24) = true)
    (a25 : PySem.W.nsIn K mainGlobals "_law_error" = some (some (.ref f25)))
    (l25 : K.lookup f25 = some ⟨oc25, od25, .func (PySem.W.fnOf "_law_error" "_law_error" (defArgs s_l_error) (defBody s_l_error) (defScope s_l_error) .none kV25 dc25 pm25 an25 cd25 ct25), sl25⟩) (c25 : PySem.W.codeIn K cd25 "_law_error" = true) (k25 : PySem.W.keepIn K (.ref f25) = true)
    (a26 : PySem.W.nsIn K mainGlobals "_law_reduce" = some (some (.ref f26)))
    (l26 : K.lookup f26 = some ⟨oc26, od26, .func (PySem.W.fnOf "_law_reduce" "_law_reduce" (defArgs s_l_reduce) (defBody s_l_reduce) (defScope s_l_reduce) .none kV26 dc26 pm26 an26 cd26 ct26), sl26⟩) (c26 : PySem.W.codeIn K cd26 "_law_reduce" = true) (k26 : PySem.W.keepIn K (.ref f26) = true)
    (a27 : PySem.W.nsIn K mainGlobals "_law_add" = some (some (.ref f27)))
    (l27 : K.lookup f27 = some ⟨oc27, od27, .func (PySem.W.fnOf "_law_add" "_law_add" (defArgs s_l_add) (defBody s_l_add) (defScope s_l_add) .none kV27 dc27 pm27 an27 cd27 ct27), sl27⟩) (c27 : PySem.W.codeIn K cd27 "_law_add" = true) (k27 : PySem.W.keepIn K (.ref f27) = true)
    (a28 : PySem.W.nsIn K mainGlobals "_law_multiply" = some (some (.ref f28)))
    (l28 : K.lookup f28 = some ⟨oc28, od28, .func (PySem.W.fnOf "_law_multiply" "_law_multiply" (defArgs s_l_multiply) (defBody s_l_multiply) (defScope s_l_multiply) .none kV28 dc28 pm28 an28 cd28 ct28), sl28⟩) (c28 : PySem.W.codeIn K cd28 "_law_multiply" = true) (k28 : PySem.W.keepIn K (.ref f28) = true)
    (a29 : PySem.W.nsIn K mainGlobals "_law_sum" = some (some (.ref f29)))
    (l29 : K.lookup f29 = some ⟨oc29, od29, .func (PySem.W.fnOf "_law_sum" "_law_sum" (defArgs s_l_sum) (defBody s_l_sum) (defScope s_l_sum) .none kV29 dc29 pm29 an29 cd29 ct29), sl29⟩) (c29 : PySem.W.codeIn K cd29 "_law_sum" = true) (k29 : PySem.W.keepIn K (.ref f29) = true)
    (a30 : PySem.W.nsIn K mainGlobals "_law_small" = some (some (.ref f30)))
    (l30 : K.lookup f30 = some ⟨oc30, od30, .func (PySem.W.fnOf "_law_small" "_law_small" (defArgs s_l_small) (defBody s_l_small) (defScope s_l_small) .none kV30 dc30 pm30 an30 cd30 ct30), sl30⟩) (c30 : PySem.W.codeIn K cd30 "_law_small" = true) (k30 : PySem.W.keepIn K (.ref f30) = true)
    (a31 : PySem.W.nsIn K mainGlobals "_law_linear_case" = some (some (.ref f31)))
    (l31 : K.lookup f31 = some ⟨oc31, od31, .func (PySem.W.fnOf "_law_linear_case" "_law_linear_case" (defArgs s_l_linear_case) (defBody s_l_linear_case) (defScope s_l_linear_case) .none kV31 dc31 pm31 an31 cd31 ct31), sl31⟩) (c31 : PySem.W.codeIn K cd31 "_law_linear_case" = true) (k31 : PySem.W.keepIn K (.ref f31) = true)
    (a32 : PySem.W.nsIn K mainGlobals "law" = some (some (.ref f32)))
    (l32 : K.lookup f32 = some ⟨oc32, od32, .func (PySem.W.fnOf "law" "law" (defArgs s_p_law) (defBody s_p_law) (defScope s_p_law) .none kV32 dc32 pm32 an32 (.ref cL) ct32), sl32⟩) (c32 : PySem.W.codeIn K (.ref cL) "law" = true) (k32 : PySem.W.keepIn K (.ref f32) = true)
    (z0 : PySem.W.nsIn K mainGlobals "ValueError" = some none)
    (z1 : PySem.W.nsIn K mainGlobals "ZeroDivisionError" = some none)
    (z2 : PySem.W.nsIn K mainGlobals "abs" = some none)
    (z3 : PySem.W.nsIn K mainGlobals "enumerate" = some none)
    (z4 : PySem.W.nsIn K mainGlobals "len" = some none)
    (z5 : PySem.W.nsIn K mainGlobals "list" = some none)
    (z6 : PySem.W.nsIn K mainGlobals "zip" = some none)
    (z7 : PySem.W.nsIn K mainGlobals "range" = some none)
    (z8 : PySem.W.nsIn K mainGlobals "any" = some none)
    (z9 : PySem.W.nsIn K mainGlobals "sum" = some none)
    (z10 : PySem.W.nsIn K mainGlobals "all" = some none)
    (z11 : PySem.W.nsIn K mainGlobals "isinstance" = some none)
    (z12 : PySem.W.nsIn K mainGlobals "tuple" = some none)
    (z13 : PySem.W.nsIn K mainGlobals "bool" = some none)
    (z14 : PySem.W.nsIn K mainGlobals "int" = some none)
    (z15 : PySem.W.nsIn K mainGlobals "str" = some none)
    (q_ZERO : PySem.W.nsIn K mainGlobals "ZERO" = some (some (.ref o_ZERO))) (m_ZERO : K.lookup o_ZERO = some ⟨.type "tuple", od_ZERO, .seq #[.int 0 tk_ZERO_0, .int 1 tk_ZERO_1] on_ZERO, os_ZERO⟩)
    (lc : K.lookup cL = some ⟨.type "code", odc, .fields vsc, slc⟩)
    (v11 : vsc[11]? = some (.ref tL))
    (w11 : vsc.getD 11 .none = .ref tL)
    (v18 : vsc.getD 18 .none = .str fl tfl)
    (v7 : vsc.getD 7 .none = .int fg tg)
    (v9 : vsc.getD 9 .none = .bool inF)
    (v10 : vsc.getD 10 .none = .int tx tt)
    (nct : cL ≠ tL)
    (nT : K.lookup tL = none)
    : LamX.LawAtS l w K CX0 40 63 "_law_script" mg fa h := by
  have e := hfa.symm.trans (PySem.W.mg_of X G a32)
  cases e
  have F0 : FunD K "__init__" "GaitError.__init__" (defArgs s_i_GaitError) (defBody s_i_GaitError) (defScope s_i_GaitError) [(.str "GaitError"), (.str "")] [] f0 (PySem.W.fnOf "__init__" "GaitError.__init__" (defArgs s_i_GaitError) (defBody s_i_GaitError) (defScope s_i_GaitError) (.ref dT0) kV0 dc0 pm0 an0 cd0 ct0) := ⟨⟨_, _, _, _, _, _, _, _, _, _, rfl, l0, c0, .inr ⟨(fun z => by cases z), _, _, [.str "GaitError" dt0_0, .str "" dt0_1], _, rfl, d0, rfl, (.cons ⟨_, rfl⟩ (.cons ⟨_, rfl⟩ .nil))⟩, .inl rfl⟩, k0⟩
  have b0_3 := F0.binds1 (ps := ["self", "tag", "message"]) 3 2 (fun z => nomatch z) rfl fun _ _ _ _ _ _ _ us its h1 h2 => match us, its, h1, h2 with | [_, _, _], [_, _], _, _ => ⟨_, rfl, rfl⟩
  have F1 := fun_mk (st := s_i_InvalidShape) l1 c1 k1
  have b1 := F1.binds (ps := ["self", "pos"]) fun _ _ _ _ _ _ us hl => match us, hl with | [_, _], _ => rfl
  have F2 := fun_mk (st := s_i_ZeroDenominator) l2 c2 k2
  have b2 := F2.binds (ps := ["self"]) fun _ _ _ _ _ _ us hl => match us, hl with | [_], _ => rfl
  have F3 := fun_mk (st := s_p_greatest_divisor) l3 c3 k3
  have b3 := F3.binds (ps := ["one", "other"]) fun _ _ _ _ _ _ us hl => match us, hl with | [_, _], _ => rfl
  have F4 := fun_mk (st := s_p_least_multiple) l4 c4 k4
  have b4 := F4.binds (ps := ["one", "other"]) fun _ _ _ _ _ _ us hl => match us, hl with | [_, _], _ => rfl
  have F5 := fun_mk (st := s_p_common_denominator) l5 c5 k5
  have b5 := F5.binds (ps := ["row"]) fun _ _ _ _ _ _ us hl => match us, hl with | [_], _ => rfl
  have F6 : FunD K "fraction" "fraction" (defArgs s_p_fraction) (defBody s_p_fraction) (defScope s_p_fraction) [(.int 1)] [] f6 (PySem.W.fnOf "fraction" "fraction" (defArgs s_p_fraction) (defBody s_p_fraction) (defScope s_p_fraction) (.ref dT6) kV6 dc6 pm6 an6 cd6 ct6) := ⟨⟨_, _, _, _, _, _, _, _, _, _, rfl, l6, c6, .inr ⟨(fun z => by cases z), _, _, [.int 1 dt6_0], _, rfl, d6, rfl, (.cons ⟨_, rfl⟩ .nil)⟩, .inl rfl⟩, k6⟩
  have b6_2 := F6.binds1 (ps := ["num", "den"]) 2 1 (fun z => nomatch z) rfl fun _ _ _ _ _ _ _ us its h1 h2 => match us, its, h1, h2 with | [_, _], [_], _, _ => ⟨_, rfl, rfl⟩
  have F7 := fun_mk (st := s_p_check_shape) l7 c7 k7
  have b7 := F7.binds (ps := ["rows", "targets"]) fun _ _ _ _ _ _ us hl => match us, hl with | [_, _], _ => rfl
  have F8 := fun_mk (st := s_p_columns_of) l8 c8 k8
  have b8 := F8.binds (ps := ["rows"]) fun _ _ _ _ _ _ us hl => match us, hl with | [_], _ => rfl
  have F9 := fun_mk (st := s_p_as_integers) l9 c9 k9
  have b9 := F9.binds (ps := ["row"]) fun _ _ _ _ _ _ us hl => match us, hl with | [_], _ => rfl
  have F10 := fun_mk (st := s_p_clear_column) l10 c10 k10
  have b10 := F10.binds (ps := ["row", "pivot_row", "column", "last_pivot"]) fun _ _ _ _ _ _ us hl => match us, hl with | [_, _, _, _], _ => rfl
  have F11 := fun_mk (st := s_p_first_nonzero) l11 c11 k11
  have b11 := F11.binds (ps := ["row"]) fun _ _ _ _ _ _ us hl => match us, hl with | [_], _ => rfl
  have F12 := fun_mk (st := s_p_eliminate) l12 c12 k12
  have b12 := F12.binds (ps := ["rows", "width"]) fun _ _ _ _ _ _ us hl => match us, hl with | [_, _], _ => rfl
  have F13 := fun_mk (st := s_p_solution_of) l13 c13 k13
  have b13 := F13.binds (ps := ["rows", "width"]) fun _ _ _ _ _ _ us hl => match us, hl with | [_, _], _ => rfl
  have F14 := fun_mk (st := s_p_solve_linear) l14 c14 k14
  have b14 := F14.binds (ps := ["rows", "targets"]) fun _ _ _ _ _ _ us hl => match us, hl with | [_, _], _ => rfl
  have F15 := fun_mk (st := s_p_cancels) l15 c15 k15
  have b15 := F15.binds (ps := ["row", "factors"]) fun _ _ _ _ _ _ us hl => match us, hl with | [_, _], _ => rfl
  have F16 := fun_mk (st := s_p_is_solution) l16 c16 k16
  have b16 := F16.binds (ps := ["rows", "targets", "values"]) fun _ _ _ _ _ _ us hl => match us, hl with | [_, _, _], _ => rfl
  have F17 := fun_mk (st := s_p_is_certificate) l17 c17 k17
  have b17 := F17.binds (ps := ["rows", "targets", "weights"]) fun _ _ _ _ _ _ us hl => match us, hl with | [_, _, _], _ => rfl
  have F18 := fun_mk (st := s_p_check_solution) l18 c18 k18
  have b18 := F18.binds (ps := ["rows", "targets", "answer"]) fun _ _ _ _ _ _ us hl => match us, hl with | [_, _, _], _ => rfl
  have F19 := fun_mk (st := s_l_source) l19 c19 k19
  have b19 := F19.binds (ps := ["_law_script"]) fun _ _ _ _ _ _ us hl => match us, hl with | [_], _ => rfl
  have F20 := fun_mk (st := s_l_draw) l20 c20 k20
  have b20 := F20.binds (ps := ["_law_rng", "_law_quantity"]) fun _ _ _ _ _ _ us hl => match us, hl with | [_, _], _ => rfl
  have F21 := fun_mk (st := s_l_choice) l21 c21 k21
  have b21 := F21.binds (ps := ["_law_rng", "_law_some"]) fun _ _ _ _ _ _ us hl => match us, hl with | [_, _], _ => rfl
  have F22 := fun_mk (st := s_l_equal) l22 c22 k22
  have b22 := F22.binds (ps := ["_law_result", "_law_expected"]) fun _ _ _ _ _ _ us hl => match us, hl with | [_, _], _ => rfl
  have F23 := fun_mk (st := s_l_error_field) l23 c23 k23
  have b23 := F23.binds (ps := ["_law_e"]) fun _ _ _ _ _ _ us hl => match us, hl with | [_], _ => rfl
  have F24 := fun_mk (st := s_l_outcome) l24 c24 k24
  have b24 := F24.binds (ps := ["_law_ask"]) fun _ _ _ _ _ _ us hl => match us, hl with | [_], _ => rfl
  have F25 := fun_mk (st := s_l_error) l25 c25 k25
  have b25 := F25.binds (ps := ["_law_ask"]) fun _ _ _ _ _ _ us hl => match us, hl with | [_], _ => rfl
  have F26 := fun_mk (st := s_l_reduce) l26 c26 k26
  have b26 := F26.binds (ps := ["_law_num", "_law_den"]) fun _ _ _ _ _ _ us hl => match us, hl with | [_, _], _ => rfl
  have F27 := fun_mk (st := s_l_add) l27 c27 k27
  have b27 := F27.binds (ps := ["_law_one", "_law_other"]) fun _ _ _ _ _ _ us hl => match us, hl with | [_, _], _ => rfl
  have F28 := fun_mk (st := s_l_multiply) l28 c28 k28
  have b28 := F28.binds (ps := ["_law_one", "_law_other"]) fun _ _ _ _ _ _ us hl => match us, hl with | [_, _], _ => rfl
  have F29 := fun_mk (st := s_l_sum) l29 c29 k29
  have b29 := F29.binds (ps := ["_law_some"]) fun _ _ _ _ _ _ us hl => match us, hl with | [_], _ => rfl
  have F30 := fun_mk (st := s_l_small) l30 c30 k30
  have b30 := F30.binds (ps := ["_law_rng"]) fun _ _ _ _ _ _ us hl => match us, hl with | [_], _ => rfl
  have F31 := fun_mk (st := s_l_linear_case) l31 c31 k31
  have b31 := F31.binds (ps := ["_law_rng"]) fun _ _ _ _ _ _ us hl => match us, hl with | [_], _ => rfl
  have F32 := fun_mk (st := s_p_law) l32 c32 k32
  have FC : LmN.FunC K "law" "law" s_p_law fa (PySem.W.fnOf "law" "law" (defArgs s_p_law) (defBody s_p_law) (defScope s_p_law) .none kV32 dc32 pm32 an32 (.ref cL) ct32) cL := ⟨⟨_, _, _, _, _, _, _, _, rfl, l32, c32⟩⟩
  have b32 := F32.binds (ps := ["_law_script"]) fun _ _ _ _ _ _ us hl => match us, hl with | [_], _ => rfl
  let A : Ad := { f_i_GaitError := f0, fd_i_GaitError := PySem.W.fnOf "__init__" "GaitError.__init__" (defArgs s_i_GaitError) (defBody s_i_GaitError) (defScope s_i_GaitError) (.ref dT0) kV0 dc0 pm0 an0 cd0 ct0, f_i_InvalidShape := f1, fd_i_InvalidShape := PySem.W.fnOf "__init__" "InvalidShape.__init__" (defArgs s_i_InvalidShape) (defBody s_i_InvalidShape) (defScope s_i_InvalidShape) .none kV1 dc1 pm1 an1 cd1 ct1, f_i_ZeroDenominator := f2, fd_i_ZeroDenominator := PySem.W.fnOf "__init__" "ZeroDenominator.__init__" (defArgs s_i_ZeroDenominator) (defBody s_i_ZeroDenominator) (defScope s_i_ZeroDenominator) .none kV2 dc2 pm2 an2 cd2 ct2, f_p_greatest_divisor := f3, fd_p_greatest_divisor := PySem.W.fnOf "greatest_divisor" "greatest_divisor" (defArgs s_p_greatest_divisor) (defBody s_p_greatest_divisor) (defScope s_p_greatest_divisor) .none kV3 dc3 pm3 an3 cd3 ct3, f_p_least_multiple := f4, fd_p_least_multiple := PySem.W.fnOf "least_multiple" "least_multiple" (defArgs s_p_least_multiple) (defBody s_p_least_multiple) (defScope s_p_least_multiple) .none kV4 dc4 pm4 an4 cd4 ct4, f_p_common_denominator := f5, fd_p_common_denominator := PySem.W.fnOf "common_denominator" "common_denominator" (defArgs s_p_common_denominator) (defBody s_p_common_denominator) (defScope s_p_common_denominator) .none kV5 dc5 pm5 an5 cd5 ct5, f_p_fraction := f6, fd_p_fraction := PySem.W.fnOf "fraction" "fraction" (defArgs s_p_fraction) (defBody s_p_fraction) (defScope s_p_fraction) (.ref dT6) kV6 dc6 pm6 an6 cd6 ct6, f_p_check_shape := f7, fd_p_check_shape := PySem.W.fnOf "check_shape" "check_shape" (defArgs s_p_check_shape) (defBody s_p_check_shape) (defScope s_p_check_shape) .none kV7 dc7 pm7 an7 cd7 ct7, f_p_columns_of := f8, fd_p_columns_of := PySem.W.fnOf "columns_of" "columns_of" (defArgs s_p_columns_of) (defBody s_p_columns_of) (defScope s_p_columns_of) .none kV8 dc8 pm8 an8 cd8 ct8, f_p_as_integers := f9, fd_p_as_integers := PySem.W.fnOf "as_integers" "as_integers" (defArgs s_p_as_integers) (defBody s_p_as_integers) (defScope s_p_as_integers) .none kV9 dc9 pm9 an9 cd9 ct9, f_p_clear_column := f10, fd_p_clear_column := PySem.W.fnOf "clear_column" "clear_column" (defArgs s_p_clear_column) (defBody s_p_clear_column) (defScope s_p_clear_column) .none kV10 dc10 pm10 an10 cd10 ct10, f_p_first_nonzero := f11, fd_p_first_nonzero := PySem.W.fnOf "first_nonzero" "first_nonzero" (defArgs s_p_first_nonzero) (defBody s_p_first_nonzero) (defScope s_p_first_nonzero) .none kV11 dc11 pm11 an11 cd11 ct11, f_p_eliminate := f12, fd_p_eliminate := PySem.W.fnOf "eliminate" "eliminate" (defArgs s_p_eliminate) (defBody s_p_eliminate) (defScope s_p_eliminate) .none kV12 dc12 pm12 an12 cd12 ct12, f_p_solution_of := f13, fd_p_solution_of := PySem.W.fnOf "solution_of" "solution_of" (defArgs s_p_solution_of) (defBody s_p_solution_of) (defScope s_p_solution_of) .none kV13 dc13 pm13 an13 cd13 ct13, f_p_solve_linear := f14, fd_p_solve_linear := PySem.W.fnOf "solve_linear" "solve_linear" (defArgs s_p_solve_linear) (defBody s_p_solve_linear) (defScope s_p_solve_linear) .none kV14 dc14 pm14 an14 cd14 ct14, f_p_cancels := f15, fd_p_cancels := PySem.W.fnOf "cancels" "cancels" (defArgs s_p_cancels) (defBody s_p_cancels) (defScope s_p_cancels) .none kV15 dc15 pm15 an15 cd15 ct15, f_p_is_solution := f16, fd_p_is_solution := PySem.W.fnOf "is_solution" "is_solution" (defArgs s_p_is_solution) (defBody s_p_is_solution) (defScope s_p_is_solution) .none kV16 dc16 pm16 an16 cd16 ct16, f_p_is_certificate := f17, fd_p_is_certificate := PySem.W.fnOf "is_certificate" "is_certificate" (defArgs s_p_is_certificate) (defBody s_p_is_certificate) (defScope s_p_is_certificate) .none kV17 dc17 pm17 an17 cd17 ct17, f_p_check_solution := f18, fd_p_check_solution := PySem.W.fnOf "check_solution" "check_solution" (defArgs s_p_check_solution) (defBody s_p_check_solution) (defScope s_p_check_solution) .none kV18 dc18 pm18 an18 cd18 ct18, f_l_source := f19, fd_l_source := PySem.W.fnOf "_law_source" "_law_source" (defArgs s_l_source) (defBody s_l_source) (defScope s_l_source) .none kV19 dc19 pm19 an19 cd19 ct19, f_l_draw := f20, fd_l_draw := PySem.W.fnOf "_law_draw" "_law_draw" (defArgs s_l_draw) (defBody s_l_draw) (defScope s_l_draw) .none kV20 dc20 pm20 an20 cd20 ct20, f_l_choice := f21, fd_l_choice := PySem.W.fnOf "_law_choice" "_law_choice" (defArgs s_l_choice) (defBody s_l_choice) (defScope s_l_choice) .none kV21 dc21 pm21 an21 cd21 ct21, f_l_equal := f22, fd_l_equal := PySem.W.fnOf "_law_equal" "_law_equal" (defArgs s_l_equal) (defBody s_l_equal) (defScope s_l_equal) .none kV22 dc22 pm22 an22 cd22 ct22, f_l_error_field := f23, fd_l_error_field := PySem.W.fnOf "_law_error_field" "_law_error_field" (defArgs s_l_error_field) (defBody s_l_error_field) (defScope s_l_error_field) .none kV23 dc23 pm23 an23 cd23 ct23, f_l_outcome := f24, fd_l_outcome := PySem.W.fnOf "_law_outcome" "_law_outcome" (defArgs s_l_outcome) (defBody s_l_outcome) (defScope s_l_outcome) .none kV24 dc24 pm24 an24 cd24 ct24, f_l_error := f25, fd_l_error := PySem.W.fnOf "_law_error" "_law_error" (defArgs s_l_error) (defBody s_l_error) (defScope s_l_error) .none kV25 dc25 pm25 an25 cd25 ct25, f_l_reduce := f26, fd_l_reduce := PySem.W.fnOf "_law_reduce" "_law_reduce" (defArgs s_l_reduce) (defBody s_l_reduce) (defScope s_l_reduce) .none kV26 dc26 pm26 an26 cd26 ct26, f_l_add := f27, fd_l_add := PySem.W.fnOf "_law_add" "_law_add" (defArgs s_l_add) (defBody s_l_add) (defScope s_l_add) .none kV27 dc27 pm27 an27 cd27 ct27, f_l_multiply := f28, fd_l_multiply := PySem.W.fnOf "_law_multiply" "_law_multiply" (defArgs s_l_multiply) (defBody s_l_multiply) (defScope s_l_multiply) .none kV28 dc28 pm28 an28 cd28 ct28, f_l_sum := f29, fd_l_sum := PySem.W.fnOf "_law_sum" "_law_sum" (defArgs s_l_sum) (defBody s_l_sum) (defScope s_l_sum) .none kV29 dc29 pm29 an29 cd29 ct29, f_l_small := f30, fd_l_small := PySem.W.fnOf "_law_small" "_law_small" (defArgs s_l_small) (defBody s_l_small) (defScope s_l_small) .none kV30 dc30 pm30 an30 cd30 ct30, f_l_linear_case := f31, fd_l_linear_case := PySem.W.fnOf "_law_linear_case" "_law_linear_case" (defArgs s_l_linear_case) (defBody s_l_linear_case) (defScope s_l_linear_case) .none kV31 dc31 pm31 an31 cd31 ct31, f_p_law := fa, fd_p_law := PySem.W.fnOf "law" "law" (defArgs s_p_law) (defBody s_p_law) (defScope s_p_law) .none kV32 dc32 pm32 an32 (.ref cL) ct32, o_ZERO := o_ZERO, cL := cL, tL := tL, C_GaitError := C_GaitError, C_NotFound := C_NotFound, C_ZeroDenominator := C_ZeroDenominator, C_EmptyHistory := C_EmptyHistory, C_InvalidShape := C_InvalidShape }
  have T : Txt K mg A := { F_i_GaitError := F0, fc_GaitError := fc0, rd_GaitError := rd_GaitError, sg_GaitError := sg_GaitError, iC_GaitError := a0, tI_GaitError := t0, b_i_GaitError_3 := b0_3, F_i_InvalidShape := F1, iC_InvalidShape := a1, tI_InvalidShape := t1, b_i_InvalidShape := b1, F_i_ZeroDenominator := F2, iC_ZeroDenominator := a2, tI_ZeroDenominator := t2, b_i_ZeroDenominator := b2, F_p_greatest_divisor := F3, g_p_greatest_divisor := PySem.W.mg_of X G a3, b_p_greatest_divisor := b3, F_p_least_multiple := F4, g_p_least_multiple := PySem.W.mg_of X G a4, b_p_least_multiple := b4, F_p_common_denominator := F5, g_p_common_denominator := PySem.W.mg_of X G a5, b_p_common_denominator := b5, F_p_fraction := F6, g_p_fraction := PySem.W.mg_of X G a6, b_p_fraction_2 := b6_2, F_p_check_shape := F7, g_p_check_shape := PySem.W.mg_of X G a7, b_p_check_shape := b7, F_p_columns_of := F8, g_p_columns_of := PySem.W.mg_of X G a8, b_p_columns_of := b8, F_p_as_integers := F9, g_p_as_integers := PySem.W.mg_of X G a9, b_p_as_integers := b9, F_p_clear_column := F10, g_p_clear_column := PySem.W.mg_of X G a10, b_p_clear_column := b10, F_p_first_nonzero := F11, g_p_first_nonzero := PySem.W.mg_of X G a11, b_p_first_nonzero := b11, F_p_eliminate := F12, g_p_eliminate := PySem.W.mg_of X G a12, b_p_eliminate := b12, F_p_solution_of := F13, g_p_solution_of := PySem.W.mg_of X G a13, b_p_solution_of := b13, F_p_solve_linear := F14, g_p_solve_linear := PySem.W.mg_of X G a14, b_p_solve_linear := b14, F_p_cancels := F15, g_p_cancels := PySem.W.mg_of X G a15, b_p_cancels := b15, F_p_is_solution := F16, g_p_is_solution := PySem.W.mg_of X G a16, b_p_is_solution := b16, F_p_is_certificate := F17, g_p_is_certificate := PySem.W.mg_of X G a17, b_p_is_certificate := b17, F_p_check_solution := F18, g_p_check_solution := PySem.W.mg_of X G a18, b_p_check_solution := b18, F_l_source := F19, g_l_source := PySem.W.mg_of X G a19, b_l_source := b19, F_l_draw := F20, g_l_draw := PySem.W.mg_of X G a20, b_l_draw := b20, F_l_choice := F21, g_l_choice := PySem.W.mg_of X G a21, b_l_choice := b21, F_l_equal := F22, g_l_equal := PySem.W.mg_of X G a22, b_l_equal := b22, F_l_error_field := F23, g_l_error_field := PySem.W.mg_of X G a23, b_l_error_field := b23, F_l_outcome := F24, g_l_outcome := PySem.W.mg_of X G a24, b_l_outcome := b24, F_l_error := F25, g_l_error := PySem.W.mg_of X G a25, b_l_error := b25, F_l_reduce := F26, g_l_reduce := PySem.W.mg_of X G a26, b_l_reduce := b26, F_l_add := F27, g_l_add := PySem.W.mg_of X G a27, b_l_add := b27, F_l_multiply := F28, g_l_multiply := PySem.W.mg_of X G a28, b_l_multiply := b28, F_l_sum := F29, g_l_sum := PySem.W.mg_of X G a29, b_l_sum := b29, F_l_small := F30, g_l_small := PySem.W.mg_of X G a30, b_l_small := b30, F_l_linear_case := F31, g_l_linear_case := PySem.W.mg_of X G a31, b_l_linear_case := b31, F_p_law := FC, g_p_law := PySem.W.mg_of X G a32, gC_GaitError := PySem.W.mg_of X G gc_GaitError, gC_NotFound := PySem.W.mg_of X G gc_NotFound, gC_ZeroDenominator := PySem.W.mg_of X G gc_ZeroDenominator, gC_EmptyHistory := PySem.W.mg_of X G gc_EmptyHistory, gC_InvalidShape := PySem.W.mg_of X G gc_InvalidShape, oC_ZeroDenominator := ⟨PySem.F.excBase_ZeroDivisionError, PySem.F.store_ZeroDivisionError, x1_ZeroDenominator, x2_ZeroDenominator, x3_ZeroDenominator, x4_ZeroDenominator, x5_ZeroDenominator, x6_ZeroDenominator, x7_ZeroDenominator⟩, xC_ZeroDenominator := ⟨x8_ZeroDenominator, x9_ZeroDenominator, x5_ZeroDenominator, x3_ZeroDenominator⟩, no_ZeroDenominator_tag := no_ZeroDenominator_tag, em_ZeroDenominator_GaitError := em2 (PySem.W.exm_ref y1_GaitError y2_GaitError y3_GaitError s_ZeroDenominator_GaitError) (PySem.W.exm_ref y1_NotFound y2_NotFound y3_NotFound s_ZeroDenominator_NotFound), em_ZeroDenominator_ZeroDenominator := em2 (PySem.W.exm_ref y1_ZeroDenominator y2_ZeroDenominator y3_ZeroDenominator s_ZeroDenominator_ZeroDenominator) (PySem.W.exm_ref y1_EmptyHistory y2_EmptyHistory y3_EmptyHistory s_ZeroDenominator_EmptyHistory), oC_InvalidShape := ⟨PySem.F.excBase_ValueError, PySem.F.store_ValueError, x1_InvalidShape, x2_InvalidShape, x3_InvalidShape, x4_InvalidShape, x5_InvalidShape, x6_InvalidShape, x7_InvalidShape⟩, xC_InvalidShape := ⟨x8_InvalidShape, x9_InvalidShape, x5_InvalidShape, x3_InvalidShape⟩, no_InvalidShape_tag := no_InvalidShape_tag, no_InvalidShape_pos := no_InvalidShape_pos, em_InvalidShape_GaitError := em2 (PySem.W.exm_ref y1_GaitError y2_GaitError y3_GaitError s_InvalidShape_GaitError) (PySem.W.exm_ref y1_NotFound y2_NotFound y3_NotFound s_InvalidShape_NotFound), em_InvalidShape_ZeroDenominator := em2 (PySem.W.exm_ref y1_ZeroDenominator y2_ZeroDenominator y3_ZeroDenominator s_InvalidShape_ZeroDenominator) (PySem.W.exm_ref y1_EmptyHistory y2_EmptyHistory y3_EmptyHistory s_InvalidShape_EmptyHistory), vV_ValueError := vV_ValueError, vV_ZeroDivisionError := vV_ZeroDivisionError, n_ValueError := PySem.W.mg_none_of X G z0, n_ZeroDivisionError := PySem.W.mg_none_of X G z1, n_abs := PySem.W.mg_none_of X G z2, n_enumerate := PySem.W.mg_none_of X G z3, n_len := PySem.W.mg_none_of X G z4, n_list := PySem.W.mg_none_of X G z5, n_zip := PySem.W.mg_none_of X G z6, n_range := PySem.W.mg_none_of X G z7, n_any := PySem.W.mg_none_of X G z8, n_sum := PySem.W.mg_none_of X G z9, n_all := PySem.W.mg_none_of X G z10, n_isinstance := PySem.W.mg_none_of X G z11, n_tuple := PySem.W.mg_none_of X G z12, n_bool := PySem.W.mg_none_of X G z13, n_int := PySem.W.mg_none_of X G z14, n_str := PySem.W.mg_none_of X G z15, c_ZERO := PySem.W.mg_of X G q_ZERO, t_ZERO := fun H => .inr ⟨_, _, _, m_ZERO, rfl, rfl, (by show 2 ≤ sizeLine; decide), (.cons ⟨_, rfl⟩ (.cons ⟨_, rfl⟩ .nil))⟩ }
  refine ⟨PySem.W.fnOf "law" "law" (defArgs s_p_law) (defBody s_p_law) (defScope s_p_law) .none kV32 dc32 pm32 an32 (.ref cL) ct32, [(cL, tL)], sp_p_law K A, fun p hp => ?_, fun p hp => ?_, fun p hp => ?_, fun s v => .of_eq rfl, fun H b ns hl _ hT hS => ⟨b, ns, rfl, hS, hl, hT _ List.mem_cons_self, fun _ => rfl⟩, fun base _ _ TB => ok_p_law (a := A) T (TB _ List.mem_cons_self)⟩
  · rw [List.mem_singleton.mp hp]; exact OT cL tL _ _ _ _ _ _ l32 rfl rfl lc v11
  · rw [List.mem_singleton.mp hp]; exact nT
  · rw [List.mem_singleton.mp hp]; exact ⟨_, vsc, fl, tfl, fg, tg, inF, tx, tt, X _ _ lc, rfl, rfl, v11, w11, v18, v7, v9, v10, nct⟩
end Gait
open PySem PySem.W PyProof.Rows
set_option maxRecDepth 100000 in
set_option maxHeartbeats 0 in
theorem PySem.Challenge.cw_gaithold_k21_invalid_shapes_holds : PySem.Challenge.rw_gaithold_k21_invalid_shapes.Holds := by
  w_on; o_law; k_head; (case hw => w_witness2)
  k_fill
  refine LamX.walk_ofOwn (l := PySem.Challenge.rw_gaithold_k21_invalid_shapes) (n := 63) (k := 40) (x := "_law_script") (CX := fun _ => L2.CX0) rfl (by decide) rfl ⟨rfl, by decide, by decide⟩ (by decide +kernel) (fun w h Y => by first | exact PySem.W.kIn_of Y | exact PySem.W.km_in_of Y) ?F (fun _ _ _ _ _ h => h)
  case F =>
    intro w mg fa h _ KX G hmg OT
    refine' Gait.all_mk KX G hmg OT ?gc_GaitError ?gc_NotFound ?gc_ZeroDenominator ?gc_EmptyHistory ?gc_InvalidShape ?x1_ZeroDenominator ?x2_ZeroDenominator ?x3_ZeroDenominator ?x4_ZeroDenominator ?x5_ZeroDenominator ?x6_ZeroDenominator ?x7_ZeroDenominator ?x8_ZeroDenominator ?x9_ZeroDenominator ?no_ZeroDenominator_tag ?s_ZeroDenominator_GaitError ?s_ZeroDenominator_NotFound ?s_ZeroDenominator_ZeroDenominator ?s_ZeroDenominator_EmptyHistory ?x1_InvalidShape ?x2_InvalidShape ?x3_InvalidShape ?x4_InvalidShape ?x5_InvalidShape ?x6_InvalidShape ?x7_InvalidShape ?x8_InvalidShape ?x9_InvalidShape ?no_InvalidShape_tag ?no_InvalidShape_pos ?s_InvalidShape_GaitError ?s_InvalidShape_NotFound ?s_InvalidShape_ZeroDenominator ?s_InvalidShape_EmptyHistory ?y1_GaitError ?y2_GaitError ?y3_GaitError ?y1_NotFound ?y2_NotFound ?y3_NotFound ?y1_ZeroDenominator ?y2_ZeroDenominator ?y3_ZeroDenominator ?y1_EmptyHistory ?y2_EmptyHistory ?y3_EmptyHistory ?rd_GaitError ?sg_GaitError ?vV_ValueError ?vV_ZeroDivisionError ?a0 ?l0 ?c0 ?k0 ?t0 ?fc0 ?d0 ?a1 ?l1 ?c1 ?k1 ?t1 ?a2 ?l2 ?c2 ?k2 ?t2 ?a3 ?l3 ?c3 ?k3 ?a4 ?l4 ?c4 ?k4 ?a5 ?l5 ?c5 ?k5 ?a6 ?l6 ?c6 ?k6 ?d6 ?a7 ?l7 ?c7 ?k7 ?a8 ?l8 ?c8 ?k8 ?a9 ?l9 ?c9 ?k9 ?a10 ?l10 ?c10 ?k10 ?a11 ?l11 ?c11 ?k11 ?a12 ?l12 ?c12 ?k12 ?a13 ?l13 ?c13 ?k13 ?a14 ?l14 ?c14 ?k14 ?a15 ?l15 ?c15 ?k15 ?a16 ?l16 ?c16 ?k16 ?a17 ?l17 ?c17 ?k17 ?a18 ?l18 ?c18 ?k18 ?a19 ?l19 ?c19 ?k19 ?a20 ?l20 ?c20 ?k20 ?a21 ?l21 ?c21 ?k21 ?a22 ?l22 ?c22 ?k22 ?a23 ?l23 ?c23 ?k23 ?a24 ?l24 ?c24 ?k24 ?a25 ?l25 ?c25 ?k25 ?a26 ?l26 ?c26 ?k26 ?a27 ?l27 ?c27 ?k27 ?a28 ?l28 ?c28 ?k28 ?a29 ?l29 ?c29 ?k29 ?a30 ?l30 ?c30 ?k30 ?a31 ?l31 ?c31 ?k31 ?a32 ?l32 ?c32 ?k32 ?z0 ?z1 ?z2 ?z3 ?z4 ?z5 ?z6 ?z7 ?z8 ?z9 ?z10 ?z11 ?z12 ?z13 ?z14 ?z15 ?q_ZERO ?m_ZERO ?lc ?v11 ?w11 ?v18 ?v7 ?v9 ?v10 ?nct ?nT
    (case gc_GaitError => k_is); (case gc_NotFound => k_is); (case gc_ZeroDenominator => k_is); (case gc_EmptyHistory => k_is); (case gc_InvalidShape => k_is); (case x1_ZeroDenominator => kx_is); (case x2_ZeroDenominator => kx_is); (case x3_ZeroDenominator => k_is); (case x4_ZeroDenominator => k_is); (case x5_ZeroDenominator => k_is); (case x6_ZeroDenominator => k_is); (case x7_ZeroDenominator => k_is); (case x8_ZeroDenominator => k_is); (case x9_ZeroDenominator => k_is); (case no_ZeroDenominator_tag => k_is); (case s_ZeroDenominator_GaitError => k_is); (case s_ZeroDenominator_NotFound => k_is); (case s_ZeroDenominator_ZeroDenominator => k_is); (case s_ZeroDenominator_EmptyHistory => k_is); (case x1_InvalidShape => kx_is); (case x2_InvalidShape => kx_is); (case x3_InvalidShape => k_is); (case x4_InvalidShape => k_is); (case x5_InvalidShape => k_is); (case x6_InvalidShape => k_is); (case x7_InvalidShape => k_is); (case x8_InvalidShape => k_is); (case x9_InvalidShape => k_is); (case no_InvalidShape_tag => k_is); (case no_InvalidShape_pos => k_is); (case s_InvalidShape_GaitError => k_is); (case s_InvalidShape_NotFound => k_is); (case s_InvalidShape_ZeroDenominator => k_is); (case s_InvalidShape_EmptyHistory => k_is); (case y1_GaitError => k_is); (case y2_GaitError => k_is); (case y3_GaitError => k_is); (case y1_NotFound => k_is); (case y2_NotFound => k_is); (case y3_NotFound => k_is); (case y1_ZeroDenominator => k_is); (case y2_ZeroDenominator => k_is); (case y3_ZeroDenominator => k_is); (case y1_EmptyHistory => k_is); (case y2_EmptyHistory => k_is); (case y3_EmptyHistory => k_is); (case rd_GaitError => k_is); (case sg_GaitError => k_is); (case vV_ValueError => k_is); (case vV_ZeroDivisionError => k_is); (case a0 => k_is); (case l0 => k_is); (case c0 => k_is); (case k0 => k_is); (case t0 => k_is); (case fc0 => k_is); (case d0 => k_is); (case a1 => k_is); (case l1 => k_is); (case c1 => k_is); (case k1 => k_is); (case t1 => k_is); (case a2 => k_is); (case l2 => k_is); (case c2 => k_is); (case k2 => k_is); (case t2 => k_is); (case a3 => k_is); (case l3 => k_is); (case c3 => k_is); (case k3 => k_is); (case a4 => k_is); (case l4 => k_is); (case c4 => k_is); (case k4 => k_is); (case a5 => k_is); (case l5 => k_is); (case c5 => k_is); (case k5 => k_is); (case a6 => k_is); (case l6 => k_is); (case c6 => k_is); (case k6 => k_is); (case d6 => k_is); (case a7 => k_is); (case l7 => k_is); (case c7 => k_is); (case k7 => k_is); (case a8 => k_is); (case l8 => k_is); (case c8 => k_is); (case k8 => k_is); (case a9 => k_is); (case l9 => k_is); (case c9 => k_is); (case k9 => k_is); (case a10 => k_is); (case l10 => k_is); (case c10 => k_is); (case k10 => k_is); (case a11 => k_is); (case l11 => k_is); (case c11 => k_is); (case k11 => k_is); (case a12 => k_is); (case l12 => k_is); (case c12 => k_is); (case k12 => k_is); (case a13 => k_is); (case l13 => k_is); (case c13 => k_is); (case k13 => k_is); (case a14 => k_is); (case l14 => k_is); (case c14 => k_is); (case k14 => k_is); (case a15 => k_is); (case l15 => k_is); (case c15 => k_is); (case k15 => k_is); (case a16 => k_is); (case l16 => k_is); (case c16 => k_is); (case k16 => k_is); (case a17 => k_is); (case l17 => k_is); (case c17 => k_is); (case k17 => k_is); (case a18 => k_is); (case l18 => k_is); (case c18 => k_is); (case k18 => k_is); (case a19 => k_is); (case l19 => k_is); (case c19 => k_is); (case k19 => k_is); (case a20 => k_is); (case l20 => k_is); (case c20 => k_is); (case k20 => k_is); (case a21 => k_is); (case l21 => k_is); (case c21 => k_is); (case k21 => k_is); (case a22 => k_is); (case l22 => k_is); (case c22 => k_is); (case k22 => k_is); (case a23 => k_is); (case l23 => k_is); (case c23 => k_is); (case k23 => k_is); (case a24 => k_is); (case l24 => k_is); (case c24 => k_is); (case k24 => k_is); (case a25 => k_is); (case l25 => k_is); (case c25 => k_is); (case k25 => k_is); (case a26 => k_is); (case l26 => k_is); (case c26 => k_is); (case k26 => k_is); (case a27 => k_is); (case l27 => k_is); (case c27 => k_is); (case k27 => k_is); (case a28 => k_is); (case l28 => k_is); (case c28 => k_is); (case k28 => k_is); (case a29 => k_is); (case l29 => k_is); (case c29 => k_is); (case k29 => k_is); (case a30 => k_is); (case l30 => k_is); (case c30 => k_is); (case k30 => k_is); (case a31 => k_is); (case l31 => k_is); (case c31 => k_is); (case k31 => k_is); (case a32 => k_is); (case l32 => k_is); (case c32 => k_is); (case k32 => k_is); (case z0 => k_is); (case z1 => k_is); (case z2 => k_is); (case z3 => k_is); (case z4 => k_is); (case z5 => k_is); (case z6 => k_is); (case z7 => k_is); (case z8 => k_is); (case z9 => k_is); (case z10 => k_is); (case z11 => k_is); (case z12 => k_is); (case z13 => k_is); (case z14 => k_is); (case z15 => k_is); (case q_ZERO => k_is); (case m_ZERO => k_is); (case lc => k_is); (case v11 => rfl); (case w11 => rfl); (case v18 => rfl); (case v7 => rfl); (case v9 => rfl); (case v10 => rfl); (case nct => decide); (case nT => exact (by kernel_rfl))
