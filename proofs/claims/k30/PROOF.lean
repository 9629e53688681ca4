import PyProof.Rows.All
import Wide.All
import OpenK.AllK
import Wide.FinOn
import PySem.Challenge.RW_gaithold_k30_regime_errors
import HandS.ForMost
import HandS.Wide
import HandS.IsInst
import HandS.Zip
import HandS.Codes
import HandS.Defaults
import HandS.MakeKwOnly
import HandS.EndOwn
import KE.KExcLine
import HandS.ExcIs
import HandS.Defaults
import HandS.MakeKw
import HandS.FStr
import PyProof.StrLawsRepr
import HandS.Deep
import HandS.Style
import HandS.TupAny
import HandS.Style
import HandS.IsInst
import HandS.More
import HandS.TupMul
import HandS.Star
import HandS.Walk
import HandS.Walk
import HandS.Exc
import HandS.ExcInit
import HandS.ExcField
import HandS.ExcCtx
import KE.KExcInit
import HandS.Hot
import KE.KTryMore
import HandS.Lambda
import HandS.HotCalls
import KE.KDflt
import HandS.DictComp
import KE.GoesMore
import HandS.Strs
import HandS.Iter
import HandS.Dict
import KE.GoesZip
import KE.KDictZip
import KE.KCallOwn
import HandS.OwnEq
import HandS.SortKw
set_option Elab.async false
set_option linter.all false
set_option maxRecDepth 100000
set_option maxHeartbeats 4000000
namespace ExB
open PySem PySem.Spec PyProof.Rows L2 PySem.W
/-! own exception classes over any built-in base, with an __init__ that is a def -/
section
variable {prog : Program} {w : World} {A : Around} {E : Value → Shared → Prop} {hp : Heap} {g : Array GenState} {d : Drawn} {t : Nat} {os : OsState} {K : Frag} {B : String} {bmB : List Value} {a C tt : Addr} {f : Str} {u : Value}
theorem set_first {Q : Unit → Shared → Prop} (SF : StoreFacts B bmB "object.__setattr__" "object") (X : K.In hp) (hx : hp.get? a = some (excObj C tt none .none))
    (h1 : findIn K (.ref C) "__setattr__" = some (some (.builtin "object.__setattr__"))) (h2 : excOver K C bmB = true) (h3 : takerIn K C f = some none) (h4 : hasDictIn K C = true)
    (fin : ∀ (h' : Heap) (n : Nat) (dx : Addr), (∀ b o, b ≠ a → hp.get? b = some o → h'.get? b = some o) → hp.objs.size ≤ dx → dx ≠ a → h'.get? a = some (excObj C tt (some dx) .none) →
      (h'.Ns1 dx fun y => if y = f then some u else none) → Q () ⟨h', g, d, n, os⟩) :
    wpAny (model prog w) A (setAttr (.ref a) f u) Q E ⟨hp, g, d, t, os⟩ := by
  have lt : a < hp.objs.size := Heap.lt_size hx
  refine set_plain (s := ⟨hp, g, d, t, os⟩) (od := none) X ⟨hx, rfl, rfl, trivial⟩ h1 (osa_openX (s := ⟨hp, g, d, t + 1, os⟩) (od := none) SF X ⟨hx, rfl, rfl, trivial⟩ h2 h3 fun _ => ?_)
  obtain ⟨cd, hc, hd⟩ := any_some h4
  refine wpAny_bind (wpAny_pure (wpAny_bind (instanceDict_exc (s := ⟨hp, g, d, t + 1, os⟩) hx (looks_clsIn X hc) hd ?_)))
  have ne : hp.objs.size ≠ a := Nat.ne_of_gt lt
  have emp : Heap.Ns ((hp.push (dictOf [] 0)).update a fun o => { o with dict := some hp.objs.size }) hp.objs.size (fun _ => none) :=
    ⟨dictOf [] 0, #[], 0, (Heap.get?_update_other _ _ ne.symm).trans (Heap.get?_push_size _ rfl), rfl, fun e he => absurd he (by simp), fun _ => rfl⟩
  show wpAny _ _ (Builtin.ObjectAttr.storeInDict hp.objs.size (.str f t) f u) _ _ _
  refine HandSPX.store_in_new emp fun h' n hn same => ?_
  refine fin h' n hp.objs.size (fun b o hb ho => ?_) (Nat.le_refl _) ne ?_ hn
  · rw [same.2 b (Nat.ne_of_lt (Heap.lt_size ho)), Heap.get?_update_other _ _ (Ne.symm hb)]
    exact Heap.get?_push_of_some _ ho
  · rw [same.2 a ne.symm]
    exact Heap.get?_update_self _ (Heap.get?_push_of_some _ hx) rfl
theorem set_next {Q : Unit → Shared → Prop} {dx : Addr} {m0 : Str → Option Value} {ns : List Str} (SF : StoreFacts B bmB "object.__setattr__" "object") (X : K.In hp) (hx : hp.get? a = some (excObj C tt (some dx) .none)) (hn : hp.Ns1 dx m0) (hw : Within m0 ns) (hz : ns.length ≤ 1000)
    (h1 : findIn K (.ref C) "__setattr__" = some (some (.builtin "object.__setattr__"))) (h2 : excOver K C bmB = true) (h3 : takerIn K C f = some none) (h4 : hasDictIn K C = true)
    (fin : ∀ (h' : Heap) (n : Nat), (∀ b o, b ≠ dx → hp.get? b = some o → h'.get? b = some o) → (h'.Ns1 dx fun y => if y = f then some u else m0 y) → Q () ⟨h', g, d, n, os⟩) :
    wpAny (model prog w) A (setAttr (.ref a) f u) Q E ⟨hp, g, d, t, os⟩ := by
  obtain ⟨oD, _, _, hD, _, _⟩ := hn.count hw
  refine set_plain (s := ⟨hp, g, d, t, os⟩) (od := some oD) X ⟨hx, rfl, rfl, hD⟩ h1 (osa_openX (s := ⟨hp, g, d, t + 1, os⟩) (od := some oD) SF X ⟨hx, rfl, rfl, hD⟩ h2 h3 fun _ => ?_)
  obtain ⟨cd, hc, hd⟩ := any_some h4
  refine wpAny_bind (wpAny_pure (wpAny_bind (wpAny_bind (wpAny_loadPart (s := ⟨hp, g, d, t + 1, os⟩) hx (wpAny_bind ((looks_clsIn X hc).here ?_))))))
  rw [hd]
  refine wpAny_pure (a := some dx) (OEX.store_in_old hn hw hz fun h' n hn' same => ?_)
  exact fin h' n (fun b o hb ho => (same.2 b hb).trans ho) hn'
end
/-- what the written part says of the class at C, over the built-in class B -/
structure Own (K : Frag) (C : Addr) (B newId initId : String) (bmB : List Value) : Prop where
  F : ExcBaseFacts B newId initId bmB
  SF : StoreFacts B bmB "object.__setattr__" "object"
  ini : excInitIn K C bmB newId = true
  ovr : excOver K C bmB = true
  dct : hasDictIn K C = true
  sa : findIn K (.ref C) "__setattr__" = some (some (.builtin "object.__setattr__"))
  exC : subIn K (.ref C) (.type "BaseException") = some true
  tyC : typeIn K (.ref C) = some (.type "type")
  kC : keepIn K (.ref C) = true
def OwnX (K : Frag) (C : Addr) : Prop := ∃ B newId initId bmB, Own K C B newId initId bmB
section
variable {X : Cx} {pins : List (Addr × Obj)} {σ : L2.St} {H : Hp} {s : Shared} {a C dx : Addr} {f : Str} {y : V} {u : Value} {fs : List (Str × V)} {Q : Unit → Shared → Prop} {E : Value → Shared → Prop} {A : Around}
theorem first_inv (O : OwnX X.K C) (I : Inv X pins σ H s) (e : H a = some (exo a C none)) (ht : takerIn X.K C f = some none) (ry : RelV y u)
    (h : ∀ dx s', H dx = none → dx ≠ a → Inv X pins σ (upd (upd H dx (exd dx [(f, y)])) a (exo a C (some dx))) s' → Q () s') : wpAny (model X.prog X.w) A (setAttr (.ref a) f u) Q E s := by
  obtain ⟨B, newId, initId, bmB, O⟩ := O
  obtain ⟨t1, ho⟩ := exo_at I.hok e
  obtain ⟨hp, g, d, t, os⟩ := s
  refine set_first O.SF I.kIn ho O.sa O.ovr ht O.dct fun h' n dx keep big ne hx hn => ?_
  have free : H dx = none := I.hok.fresh big
  have nd : ∀ {b : Addr} {o : Obj}, hp.get? b = some o → b ≠ dx := fun q => Nat.ne_of_lt (Nat.lt_of_lt_of_le (Heap.lt_size q) big)
  have na : ∀ {b : Addr}, H b = none → b ≠ a := fun z q => by rw [q, e] at z; cases z
  have go : ∀ {b : Addr} {o : HO}, H b = some o → exo a C none ≠ o → upd (upd H dx (exd dx [(f, y)])) a (exo a C (some dx)) b = some o := fun {b o} q ne => by
    rw [upd_ne (at_ne e q ne), upd_ne (ne_of_none q free)]
    exact q
  refine h dx _ free ne (I.un (t' := n) (Un.mk (fun b o q z _ _ => keep b o (na z) q) (fun b o q z _ _ => ⟨o.slots, keep b o (na z) q⟩) (fun b o q z _ => ?_) (fun b o q _ => ?_) (fun b xs q => go q exo_tup) (fun b o v q => go q exo_frz) (fun b ps q => ⟨#[], ?_⟩)) fun b o q => ?_)
  · rw [upd_ne (na z), upd_ne (nd q)]
    exact z
  · by_cases hb : b = a
    · subst hb; exact ⟨_, hx⟩
    · exact ⟨o, keep b o hb q⟩
  · rw [go q exo_tbl]; simp
  · by_cases hb : b = a
    · subst hb
      rw [upd_same] at q
      cases q
      exact exo_ok hx
    rw [upd_ne hb] at q
    by_cases hd : b = dx
    · subst hd
      rw [upd_same] at q
      cases q
      exact exd_ok hn (relO_put (fs := []) ry fun _ => True.intro)
    rw [upd_ne hd] at q
    refine (I.hok b o q).stay (fun c v hc z => keep c v ?_ z) (fun c hc => go hc exo_own) fun c xs hc => go hc exo_tup
    rcases hc with hc | hc
    · rw [hc]; exact hb
    · exact at_ne e hc exo_own
theorem next_inv (O : OwnX X.K C) (I : Inv X pins σ H s) (e : H a = some (exo a C (some dx))) (ed : H dx = some (exd dx fs)) (hl : fs.length ≤ 900) (ht : takerIn X.K C f = some none) (ry : RelV y u)
    (h : ∀ s', Inv X pins σ (upd H dx (exd dx ((f, y) :: fs))) s' → Q () s') : wpAny (model X.prog X.w) A (setAttr (.ref a) f u) Q E s := by
  obtain ⟨B, newId, initId, bmB, O⟩ := O
  obtain ⟨t1, ho⟩ := exo_at I.hok e
  obtain ⟨mA, hns, rel⟩ := exd_at I.hok ed
  obtain ⟨hp, g, d, t, os⟩ := s
  refine set_next O.SF I.kIn ho hns (within_of rel) (by rw [List.length_map]; omega) O.sa O.ovr ht O.dct fun h' n keep hn => ?_
  obtain ⟨o, es, ep, e1, r1⟩ := id hn
  exact h _ (I.write (t' := n) (x := dx) (e := dx) (o := exd dx ((f, y) :: fs)) (by rw [ed]; exact True.intro) (.inl rfl) keep ⟨o, e1⟩ (exd_ok hn (relO_put ry rel)))
theorem init_inv {us : List Value} {B newId initId : String} {bmB : List Value} {Q : Value → Shared → Prop} (O : Own X.K C B newId initId bmB) (I : Inv X pins σ H s) (e : H a = some (exo a C none)) (hl : us.length ≤ sizeLine)
    (h : ∀ s', Inv X pins σ H s' → Q .none s') : wpAny (model X.prog X.w) A (call (.builtin initId) (.ref a :: us)) Q E s := by
  obtain ⟨nm, N, qn, bs, bm, hd, sn, sub, ab, col, dd, k0, k1, k2, k3, k5, hC, hT⟩ := excInit_of I.kIn O.ini
  obtain ⟨t1, ho⟩ := exo_at I.hok e
  obtain ⟨hp, g, d, t, os⟩ := s
  refine wpAny_call (HandSPX.init_base O.F hT hC ho hl fun h' t2 keep hx => ?_)
  have J := I.write (t' := t) (x := a) (e := a) (o := exo a C none) (by rw [e]; exact True.intro) (.inl rfl) keep ⟨_, hx⟩ (exo_ok hx)
  have same : upd H a (exo a C none) = H := funext fun b => by
    by_cases hb : b = a
    · subst hb; rw [upd_same, e]
    · rw [upd_ne hb]
  rw [same] at J
  exact h _ J
end
/-- B.__init__(self, ..) -/
def tBI (K : Frag) (B initId : String) (ta : TA) : TE := fun σ H Q => ta σ H fun vs H1 => ∃ (a C : Addr) (ws : List V) (newId : String) (bmB : List Value), vs = .ref a :: ws ∧ ws.length ≤ 1000 ∧ Own K C B newId initId bmB ∧ H1 a = some (exo a C none) ∧ Q .non H1
/-- self.f = e -/
def tSt (K : Frag) (f : Str) (to te : TE) : TS := fun D σ H => te σ H fun y H1 => to σ H1 fun x H2 => ∃ a C : Addr, x = .ref a ∧ OwnX K C ∧ takerIn K C f = some none ∧
  ((H2 a = some (exo a C none) ∧ ∀ dx, H2 dx = none → dx ≠ a → D.nx σ (upd (upd H2 dx (exd dx [(f, y)])) a (exo a C (some dx)))) ∨
    ∃ (dx : Addr) (fs : List (Str × V)), H2 a = some (exo a C (some dx)) ∧ H2 dx = some (exd dx fs) ∧ fs.length ≤ 900 ∧ D.nx σ (upd H2 dx (exd dx ((f, y) :: fs))))
section
variable {X : Cx} {o e : Expr} {es : List Expr} {to te : TE} {ta : TA} {f : Str} {p p' p1 p2 pos : Pos}
theorem ps_st (ho : PE X o to) (he : PE X e te) (hs : swapsWith e (some (.Attribute o f p')) pos.line X.env = pure false := by rfl) : PS X (.Assign [.Attribute o f p'] e pos) (tSt X.K f to te) := by
  refine ⟨fun pins s σ H D I h => plainObj_wpAny_Assign_Attribute (thn (he.run pins s σ H _ I h) fun v s1 hv => ?_) hs⟩
  obtain ⟨y, H1, I1, ry, q1⟩ := hv
  refine thn (ho.run pins s1 σ H1 _ I1 q1) fun v2 s2 hv2 => ?_
  obtain ⟨x, H2, I2, rx, a, C, ex, O, ht, q⟩ := hv2
  subst ex
  have ea : v2 = Value.ref a := rx
  subst ea
  rcases q with ⟨e1, q⟩ | ⟨dx, fs, e1, e2, hl, q⟩
  · exact first_inv O I2 e1 ht ry fun dx s' n ne J => ⟨σ, _, J, q dx n ne⟩
  · exact next_inv O I2 e1 e2 hl ht ry fun s' J => ⟨σ, _, J, q⟩
theorem pe_binit {x : Str} {B initId : String} {pl : Sem Bool} (hg : Gl X x) (hm : X.mg x = none) (hv : bootBuiltins x = some (.type B)) (hn : x ≠ "__name__") (hdb : (x == ("__debug__" : Str)) = false)
    (ty : typeOf (.type B) = pure (.type "type")) (stub : Manifest.isStub B = false) (vV : findCls X.K (.type B) (.type "type") "__init__" = some (.val (.builtin initId))) (hh : handedIn (.builtin initId) = true)
    (ha : PA X (e :: es) ta)
    (hc : eval (.Call (.Attribute (.Name x p1) "__init__" p2) (e :: es) [] pos) X.env = (do
      let ov ← eval (.Name x p1) X.env
      standAt p2.atName
      let (f, first) ← holding [ov] (getMethod ov "__init__" pl)
      callWith pos f first (backTo pos (starEach (e :: es) X.env)) (backToKw pos (keywordEach [] X.env))) := by rfl)
    (he : starEach (e :: es) X.env = (false, eval e X.env) :: starEach es X.env := by rfl) (hpl : (backTo pos (starEach es X.env)).any (·.1) = false := by rfl) :
    PE X (.Call (.Attribute (.Name x p1) "__init__" p2) (e :: es) [] pos) (tBI X.K B initId ta) := by
  refine ⟨fun pins s σ H Q I h => methodCall_KW (ld_blt I hg hm hv ?_ hn hdb) hc⟩
  obtain ⟨m, fr⟩ := I.fr
  refine method_type fr I.ok.mod.kin ty stub vV hh ?_
  show wpAny _ _ (callWith pos (Value.builtin initId) [] (backTo pos (starEach (e :: es) X.env)) []) _ _ _
  refine PyProof.Rows.callWith_method1 (thn (ha.run pos pins _ σ H _ (I.tok _) h) fun us s1 hu => ?_) he hpl
  obtain ⟨vs, H1, I1, r1, a, C, ws, n', b', ev, hl, O, ea, q⟩ := hu
  subst ev
  cases r1 with
  | @cons _ u0 _ ur ra rr =>
    have e0 : u0 = Value.ref a := ra
    subst e0
    have hlen : ur.length ≤ sizeLine := by rw [← Paired.length rr, sizeLine_eq]; omega
    exact init_inv O I1 ea hlen fun s' J => ⟨.non, H1, J, rfl, q⟩
/-- C(..), its __init__ keeping sp -/
def tMk (C : Addr) (sp : Sp) (dvs : List V) (ta : TA) : L2.St → Hp → XK → Prop := fun σ H Q => ta σ H fun vs H1 => vs.length ≤ 1000 ∧ ∀ a, H1 a = none → sp (.ref a :: (vs ++ dvs)) (upd H1 a (exo a C none))
  (fun v H2 => v = .non ∧ ∃ (d : Addr) (fs : List (Str × V)), H2 a = some (exo a C (some d)) ∧ H2 d = some (exd d fs) ∧ H1 d = none ∧ Q (.ref C) (some d) (upd (del H2 a) d (.xd fs))) L2.E0
theorem call_own {CX : CXT} {C fI : Addr} {k : Nat} {fd : FuncData} {ps : List Str} {sp : Sp} {ds us : List Value} {dvs vs : List V} {pins : List (Addr × Obj)} {σ : L2.St} {H : Hp} {s : Shared} {Q : XK} (O : OwnX X.K C)
    (iC : findIn X.K (.ref C) "__init__" = some (some (.ref fI))) (tI : typeIn X.K (.ref fI) = some (.type "function")) (F1 : FnOk X.prog X.w X.K X.mg X.base CX k fI fd ps sp) (hr : Room (k + 1) X.A) (hb : Binds X.K fd ps ds) (hd : Vals dvs ds) (hx : Passes CX X L2.E0)
    (I : Inv X pins σ H s) (r : Vals vs us) (hl : vs.length ≤ 1000) (q : ∀ a, H a = none → sp (.ref a :: (vs ++ dvs)) (upd H a (exo a C none))
      (fun v H2 => v = .non ∧ ∃ (d : Addr) (fs : List (Str × V)), H2 a = some (exo a C (some d)) ∧ H2 d = some (exd d fs) ∧ H d = none ∧ Q (.ref C) (some d) (upd (del H2 a) d (.xd fs))) L2.E0) :
    wpAny (model X.prog X.w) X.A (call (.ref C) us) (L2N.MkP X pins σ Q) X.xe s := by
  obtain ⟨B, newId, initId, bmB, O⟩ := O
  obtain ⟨nm, N, qn, bs, bm, hdc, sn, sub, ab, col, dd, k0, k1, k2, k3, k5, hC, hT⟩ := excInit_of I.kIn O.ini
  obtain ⟨hp, g, dr, tk, os⟩ := s
  have big : hp.objs.size ≤ hp.objs.size + 1 := Nat.le_succ _
  have q2 := q (hp.objs.size + 1) (I.hok.fresh big)
  have keep : ∀ b o, hp.get? b = some o → ((hp.push (kdv_tup us)).push (HandSPX.excO C hp.objs.size)).get? b = some o := fun b o z => Heap.get?_push_of_some _ (Heap.get?_push_of_some _ z)
  have new : ((hp.push (kdv_tup us)).push (HandSPX.excO C hp.objs.size)).get? (hp.objs.size + 1) = some (HandSPX.excO C hp.objs.size) := by heap_get
  have I2 := I.laid (t' := tk) (o := exo (hp.objs.size + 1) C none) keep big (exo_ok new)
  have r2 : Vals (V.ref (hp.objs.size + 1) :: (vs ++ dvs)) (Value.ref (hp.objs.size + 1) :: (us ++ ds)) := .cons rfl (r.append hd)
  have len2 : (Value.ref (hp.objs.size + 1) :: us ++ ds).length = ps.length := (r2.length.symm.trans (F1.len _ _ _ _ q2))
  have lenU : us.length ≤ sizeLine := by rw [← Paired.length r, sizeLine_eq]; omega
  have run := F1.run _ X.stack _ _ ⟨Value.ref (hp.objs.size + 1) :: us, []⟩ (Value.ref (hp.objs.size + 1) :: (us ++ ds)) _ _ L2.E0 (hr.make C us []) (I2.env0.make C us []) (hb _ (Value.ref (hp.objs.size + 1) :: us) I2.kIn len2) r2 q2
  refine wpAny_call (HandSPX.call_own O.F hT hC (looks_findIn I.kIn iC) (fun self => bind_fn I.kIn self tI) lenU (codeAny_mono run fun res s' hq => ?_))
  cases res with
  | error er => exact hx pins σ _ _ er s' I2 hq
  | ok fl =>
    cases fl with
    | next => exact False.elim hq
    | brk => exact False.elim hq
    | cont => exact False.elim hq
    | ret u =>
      obtain ⟨v, H2, os2, bare2, un2, hok2, rv, ev, d, fs, ea, ed, hd1, qq⟩ := hq
      subst ev
      obtain ⟨h2, g2, d2, t2, os'⟩ := s'
      obtain ⟨t0, G, J, kG, ge, hoe, na⟩ := mk_end0 (d2 := d2) (t2 := t2) I big keep un2 hok2 os2 bare2 ea ed hd1
      refine ⟨rv, hp.objs.size + 1, _, _, ⟨G, g2, d2, t2, os'⟩, _, .ref C, some d, rfl, J, kG, ge, hoe, ⟨rfl, rfl, fun vs e => ?_⟩, rfl, rfl, na, rfl, bare2, raises_own O.exC O.tyC, qq⟩
      cases e
      rfl
section
variable {CX : CXT} {x : Str} {C fI : Addr} {k : Nat} {fd : FuncData} {ps : List Str} {sp : Sp} {ds : List Value} {dvs : List V}
theorem pmk0 (O : OwnX X.K C) (iC : findIn X.K (.ref C) "__init__" = some (some (.ref fI))) (tI : typeIn X.K (.ref fI) = some (.type "function")) (F1 : FnOk X.prog X.w X.K X.mg X.base CX k fI fd ps sp) (hr : Room (k + 1) X.A) (hb : Binds X.K fd ps ds) (hd : Vals dvs ds) (hx : Passes CX X L2.E0)
    (hg : Gl X x) (hm : X.mg x = some (.ref C)) (hdb : (x == ("__debug__" : Str)) = false := by decide) : L2N.PMk X (.Call (.Name x p) [] [] pos) (tMk C sp dvs tNil) := by
  intro pins s σ H Q I h
  obtain ⟨hl, q⟩ := h
  have O' := O
  obtain ⟨B, newId, initId, bmB, OB⟩ := O'
  refine wpAny_Call_Name_kw (ld_glob I hg hm ?_ hdb)
  exact callWith_K0 I.kIn OB.kC (call_own (us := []) O iC tI F1 hr hb hd hx I .nil hl q)
theorem pmk1 (O : OwnX X.K C) (iC : findIn X.K (.ref C) "__init__" = some (some (.ref fI))) (tI : typeIn X.K (.ref fI) = some (.type "function")) (F1 : FnOk X.prog X.w X.K X.mg X.base CX k fI fd ps sp) (hr : Room (k + 1) X.A) (hb : Binds X.K fd ps ds) (hd : Vals dvs ds) (hx : Passes CX X L2.E0)
    (hg : Gl X x) (hm : X.mg x = some (.ref C)) (ha : PA X (e :: es) ta) (hdb : (x == ("__debug__" : Str)) = false := by decide) (he : starEach (e :: es) X.env = (false, eval e X.env) :: starEach es X.env := by rfl) (hpl : (backTo pos (starEach es X.env)).any (·.1) = false := by rfl) :
    L2N.PMk X (.Call (.Name x p) (e :: es) [] pos) (tMk C sp dvs ta) := by
  intro pins s σ H Q I h
  have O' := O
  obtain ⟨B, newId, initId, bmB, OB⟩ := O'
  refine wpAny_Call_Name_kw (ld_glob I hg hm ?_ hdb)
  refine callWith_K (h₀ := X.base) I.ok.mod.kin OB.kC (thn (ha.run pos pins s σ H _ I h) fun us s1 hu => ?_) he hpl
  obtain ⟨vs, H1, I1, r1, hl, q⟩ := hu
  exact ⟨I1.kIn, call_own O iC tI F1 hr hb hd hx I1 r1 hl q⟩
end
end
/-- C0.__init__(self, ..), read off the class at C0: a def of the text -/
theorem pe_cinit {X : Cx} {CX : CXT} {k : Nat} {f C : Addr} {fd : FuncData} {ps : List Str} {sp : Sp} {E : XK} {x : Str} {ds : List Value} {dvs : List V} {e : Expr} {es : List Expr} {ta : TA} {p1 p2 pos : Pos} {pl : Sem Bool}
    (F1 : FnOk X.prog X.w X.K X.mg X.base CX k f fd ps sp) (hr : Room k X.A) (hg : Gl X x) (hm : X.mg x = some (.ref C)) (rd : readsIn X.K C (.type "type") = true) (sg : specialIn X.K (.ref C) "__getattribute__" = some (some (.builtin "type.__getattribute__")))
    (fc : findCls X.K (.ref C) (.type "type") "__init__" = some (.val (.ref f))) (hk : keepIn X.K (.ref f) = true) (hb : Binds X.K fd ps ds) (hd : Vals dvs ds) (hx : Passes CX X E) (ha : PA X (e :: es) ta) (hdb : (x == ("__debug__" : Str)) = false := by decide)
    (hc : eval (.Call (.Attribute (.Name x p1) "__init__" p2) (e :: es) [] pos) X.env = (do
      let ov ← eval (.Name x p1) X.env
      standAt p2.atName
      let (f, first) ← holding [ov] (getMethod ov "__init__" pl)
      callWith pos f first (backTo pos (starEach (e :: es) X.env)) (backToKw pos (keywordEach [] X.env))) := by rfl)
    (he : starEach (e :: es) X.env = (false, eval e X.env) :: starEach es X.env := by rfl) (hpl : (backTo pos (starEach es X.env)).any (·.1) = false := by rfl) :
    PE X (.Call (.Attribute (.Name x p1) "__init__" p2) (e :: es) [] pos) (tCall sp dvs E ta) := by
  constructor
  intro pins s σ H Q I h
  refine methodCall_KW (ld_glob I hg hm ?_ hdb) hc
  refine method_cls I.kIn sg (cls_value I.kIn rd fc rfl ?_)
  have J := I.tok (s.toks + 1)
  refine callWith_K (h₀ := X.base) J.ok.mod.kin hk (thn (ha.run pos pins _ σ H _ J h) fun us s1 hu => ?_) he hpl
  obtain ⟨vs, H1, I1, r1, q1⟩ := hu
  exact ⟨I1.kIn, run_fn F1 hr hb hd hx I1 r1 q1⟩
end ExB

namespace TrT
open PySem PySem.Spec PyProof.Rows L2 PySem.W
/-! try with clauses of two classes each, the exception held by a name and known as a value -/
/-- at a: an exception of the class cls, its dict d -/
def exq (a : Addr) (cls : Value) (d : Option Addr) : HO := .ext fun h => ∃ (o : Obj) (vs : Array Value), h.get? a = some o ∧ L2N.Zn cls d o ∧ o.data = .fields vs
theorem exq_ok {P : Program} {w : World} {H : Hp} {h : Heap} {a : Addr} {cls : Value} {d : Option Addr} {o : Obj} {vs : Array Value} (e : h.get? a = some o) (z : L2N.Zn cls d o) (hd : o.data = .fields vs) : ObjOk P w H h a (exq a cls d) :=
  ⟨⟨o, vs, e, z, hd⟩, ⟨o, e⟩, fun h1 h2 q k => by
    obtain ⟨o', vs', e', z', d'⟩ := q
    exact ⟨o', vs', k _ e', z', d'⟩⟩
theorem exq_at {P : Program} {w : World} {H : Hp} {h : Heap} {a : Addr} {cls : Value} {d : Option Addr} (hok : HOk P w H h) (e : H a = some (exq a cls d)) : ∃ (o : Obj) (vs : Array Value), h.get? a = some o ∧ L2N.Zn cls d o ∧ o.data = .fields vs := by
  have x : ObjOk P w H h a (.ext fun h => ∃ (o : Obj) (vs : Array Value), h.get? a = some o ∧ L2N.Zn cls d o ∧ o.data = .fields vs) := hok a _ e
  exact x.1
section
variable {X : Cx} {pins : List (Addr × Obj)} {σ : L2.St} {H : Hp} {sI s' : Shared} {B : Heap} {a : Addr} {cls : Value} {d : Option Addr} {oe : Obj} {vs : Array Value}
/-- on the ground again, the exception tracked -/
theorem landX (I : Inv X pins σ H sI) (nb : ∀ b o, sI.heap.get? b = some o → b ∉ frs X.stack → B.get? b = some o) (st : B.StaysIn s'.heap) (up : sI.heap.UpToSlots s'.heap) (os : s'.os = sI.os) (ag : AllBare s'.gens)
    (hB : B.get? a = none) (nf : a ∉ frs X.stack) (he : s'.heap.get? a = some oe) (hz : L2N.Zn cls d oe) (hd : oe.data = .fields vs) (na : H a = none) : Inv X pins σ (upd H a (exq a cls d)) s' := by
  have new : ∀ b o, sI.heap.get? b = some o → b ≠ a := fun b o e z => by
    subst z
    rw [nb _ o e nf] at hB
    cases hB
  have fr : ∀ b ∈ frs X.stack, ∀ o, sI.heap.get? b = some o → ∃ sl, s'.heap.get? b = some { o with slots := sl } := fun b hb o e => by
    obtain ⟨_, o2, e2, hn⟩ := I.stack.mem hb
    rw [e] at e2
    cases e2
    exact up b o e hn
  have old : ∀ {b : Addr} {o : HO}, H b = some o → upd H a (exq a cls d) b = some o := fun e => by rw [upd_ne (ne_of_none e na)]; exact e
  have hok : HOk X.prog X.w H s'.heap := (I.inGround nb).kept st
  refine I.call' (s' := s') (ch := []) os (Un.mk (fun b o e _ hb _ => st b o (nb b o e hb)) (fun b o e _ hb _ => fr b hb o e) (fun b o e n _ => by rw [upd_ne (new b o e)]; exact n) (fun b o e _ => ?_) (fun b xs e => old e) (fun b o u e => old e) (fun b ps e => ⟨#[], by rw [old e]; simp⟩)) (fun b o q => ?_) ag (fun _ z => nomatch z)
  · by_cases hb : b ∈ frs X.stack
    · obtain ⟨sl, q⟩ := fr b hb o e
      exact ⟨_, q⟩
    · exact ⟨o, st b o (nb b o e hb)⟩
  · by_cases hb : b = a
    · subst hb
      rw [upd_same] at q
      cases q
      exact exq_ok he hz hd
    · rw [upd_ne hb] at q
      exact (hok b o q).stay (fun c u _ z => z) (fun c z => old z) fun c xs z => old z
theorem toSuite (I : Inv X pins σ H s') : Inv (X.suite a (X.pn ++ pins)) [] σ H s' :=
  ⟨I.ok.suite _ _, I.os, I.bare, I.base, I.loc, I.cell, I.free, I.freeC, fun p hp => I.pin p (by rw [List.append_nil] at hp; exact hp), I.hok, I.len⟩
theorem ofSuite {pn : List (Addr × Obj)} (I : Inv (X.suite a (X.pn ++ pins)) pn σ H s') (ok : X.Ok) : Inv X pins σ H s' :=
  ⟨ok, I.os, I.bare, I.base, I.loc, I.cell, I.free, I.freeC, fun p hp => I.pin p (List.mem_append_left _ hp), I.hok, I.len⟩
theorem fly_push {l : List Env} {Z : Obj → Prop} {h : Heap} (x : HandSPX.FlyingZ B l a Z h) (o : Obj) : HandSPX.FlyingZ B l a Z (h.push o) := by
  obtain ⟨h1, h2, h3, oe, vs, T, oT, ts, e1, e2, e3, e4, e5, e6, e7, e8, e9⟩ := x
  exact ⟨fun b u e => Heap.get?_push_of_some _ (h1 b u e), h2, Heap.FunFrames.of_keeps (fun b u e _ => ⟨u, Heap.get?_push_of_some _ e, rfl⟩) h3, oe, vs, T, oT, ts, Heap.get?_push_of_some _ e1, e2, e3, e4, e5, e6, Heap.get?_push_of_some _ e7, e8, e9⟩
end
/-- the slot of the name is emptied behind a suite -/
def endAs (i : Nat) (D : Ends) : Ends := { nx := fun σ H => D.nx (σ.set i none) H, rt := D.rt, bk := fun σ H => D.bk (σ.set i none) H, ct := fun σ H => D.ct (σ.set i none) H }
abbrev Cl := (Value × Value) × (Addr → TS)
/-- what the clauses wish -/
def wTup (K : Frag) (Wout : WX) (D : Ends) (i : Nat) : List Cl → WX
  | [] => Wout
  | (c, ts) :: r => fun cls d σ H => ∃ b, exmAny K cls [c.1, c.2] = some b ∧ (b = true → ∀ a, H a = none → ts a (endAs i D) (σ.set i (some (.ref a))) (upd H a (exq a cls d))) ∧ (b = false → wTup K Wout D i r cls d σ H)
inductive HdsT (X : Cx) (n : Str) : List ExceptHandler → List Cl → Prop
  | nil : HdsT X n [] []
  | cons {x y : Str} {c1 c2 : Value} {ts : Addr → TS} {b₀ : Stmt} {suite : List Stmt} {p1 p2 p3 pos : Pos} {kx} {hds : List ExceptHandler} {l : List Cl} (g1 : Gl X x) (m1 : X.mg x = some c1) (d1 : (x == ("__debug__" : Str)) = false) (g2 : Gl X y) (m2 : X.mg y = some c2) (d2 : (y == ("__debug__" : Str)) = false)
      (hsu : ∀ (a : Addr) (pn : List (Addr × Obj)), PSs (X.suite a pn) (b₀ :: suite) (ts a)) (r : HdsT X n hds l) :
      HdsT X n (.ExceptHandler (some (.Tuple [.Name x p1, .Name y p2] kx p3)) (some n) (b₀ :: suite) pos :: hds) (((c1, c2), ts) :: l)
section
variable {X : Cx} {n : Str} {i : Nat} {body : List Stmt} {h₀ : ExceptHandler} {hds : List ExceptHandler} {l : List Cl} {pos : Pos} {tb : WX → TS} {Wout : WX}
theorem ps_try_tup (hs : X.stack = X.env :: X.outer) (hf : X.env.frame = some X.env.locals) (hN : X.N.Nodup) (hi : X.N[i]? = some n) (hln : X.env.kindOf n = some .local) (tk : L2N.Takes X Wout)
    (hb : ∀ (W : WX) (pn : List (Addr × Obj)) (xe : Value → Shared → Prop), L2N.Takes (X.tr pn xe) W → PassesOwn (model X.prog X.w) X.A X.env xe → PSs (X.tr pn xe) body (tb W))
    (hh : HdsT X n (h₀ :: hds) l) : PS X (.Try body (h₀ :: hds) [] [] pos) (fun D σ H => tb (wTup X.K Wout D i l) D σ H) := by
  refine ⟨fun pins s σ H D I h => ?_⟩
  have ok := I.ok
  have hfr : X.A.frames = some (X.env :: X.outer) := by rw [ok.frames, hs]
  have hloc : Loc X.env.scope n := .inl hln
  refine wpAny_Try_except (wpAny_mono ((hb (wTup X.K Wout D i l) (X.pn ++ pins) _ (fun u s' xx => ?_) PassesOwn.looking).run [] s σ H D (I.toTry _) h) (fun f s1 hsp => ?_) (fun e s1 he => he))
  · obtain ⟨a, B, sI, pins', σ', H', cls, d, rfl, J', nb, up, sky, na, os, ag, wish⟩ := xx
    have J : Inv X pins σ' H' sI := J'.ofTry ok
    refine L2N.Sky.land L2N.Zn.steady hfr hf (by rw [← hs]; exact sky) fun h3 fl3 up3 => ?_
    have go : ∀ {hds' : List ExceptHandler} {l' : List Cl}, HdsT X n hds' l' → ∀ h3 : Heap, HandSPX.FlyingZ B (X.env :: X.outer) a (L2N.Zn cls d) h3 → sI.heap.UpToSlots h3 → wTup X.K Wout D i l' cls d σ' H' →
        wpAny (model X.prog X.w) X.A (handleBy (.ref a) X.env hds') (SP X pins D) X.xe { s' with heap := h3 } := by
      intro hds' l' hk
      induction hk with
      | nil =>
        intro h3 fl3 up3 w
        refine wpAny_handleBy_nil ?_
        obtain ⟨_, _, _, oe, vs, T, oT, ts', he, hz, hd, h1, hr⟩ := id fl3
        unfold PySem.passOn
        refine wpAny_bind (wpAny_field he hd h1 ?_)
        rw [if_neg (show ¬ ((Value.ref T == Value.none) = true) by simp)]
        have out : wpAny (model X.prog X.w) X.A (setFlight (.ref a) X.env.frame) (fun _ s4 => wpAny (model X.prog X.w) X.A (throw (.ref a) : Sem Flow) (SP X pins D) X.xe s4) X.xe { s' with heap := h3 } := by
          rw [hf]
          refine HandSPX.setFlight_upZ fl3 fun h4 held up4 => wpAny_throw (tk _ _ ?_)
          exact ⟨a, B, sI, pins, σ', H', cls, d, rfl, J, nb, up3.trans up4, .inr (.inr (by rw [hs]; exact held)), na, os, ag, w⟩
        first
          | exact wpAny_bind (wpAny_pure (wpAny_bind out))
          | exact wpAny_bind out
      | @cons x y c1 c2 ts b₀ suite p1 p2 p3 pos' kx hds2 l2 g1 m1 d1 g2 m2 d2 hsu r ih =>
        intro h3 fl3 up3 w
        obtain ⟨b, hb1, hyes, hno⟩ := w
        have J3 : Inv X pins σ' H' { s' with heap := h3 } := J.landed nb fl3.1 up3 os ag
        obtain ⟨oe3, vs3, he3, hz3, hd3⟩ := fl3.there
        have nfr : a ∉ frs (X.env :: X.outer) := fun hm => by
          obtain ⟨_, o2, e2, hn⟩ := fl3.2.2.1.mem hm
          rw [he3] at e2
          cases e2
          exact hn _ hd3
        have S3 : Inv (X.suite a (X.pn ++ pins)) [] σ' H' { s' with heap := h3 } := toSuite J3
        refine wpAny_handleBy_cons (codeAny_handlers_test ?_) (by intro q; cases q)
        refine wpAny_Tuple_spliced ?_
        show wpAny _ _ (spliced [(false, eval (.Name x p1) X.env), (false, eval (.Name y p2) X.env)]) _ _ _
        refine Calls.spliced_cons (ld_glob (X := X.suite a (X.pn ++ pins)) S3 g1 m1 (Calls.spliced_cons (ld_glob (X := X.suite a (X.pn ++ pins)) S3 g2 m2 (Calls.spliced_nil ⟨by show 2 ≤ sizeLine; decide, ?_⟩) d2)) d1)
        have flp := fly_push fl3 { cls := .type "tuple", data := .seq [c1, c2].toArray }
        have upp : sI.heap.UpToSlots (h3.push { cls := .type "tuple", data := .seq [c1, c2].toArray }) := up3.trans (Heap.UpToSlots.of_keeps fun b o e => Heap.get?_push_of_some _ e)
        have Kp := J3.kIn.keeps fun b o e => Heap.get?_push_of_some { cls := .type "tuple", data := .seq [c1, c2].toArray } e
        have LT : Looks (model X.prog X.w) (h3.push { cls := .type "tuple", data := .seq [c1, c2].toArray }) (typeOf (.ref a)) cls := fun A Q E s k q => wpAny_typeOf_ref (k _ _ (Heap.get?_push_of_some _ he3)) (by rw [hz3.1]; exact q)
        have LM := exm_tup2 (M := model X.prog X.w) Kp LT (Heap.get?_push_size _ rfl) hb1
        refine LM.here ?_
        cases b with
        | true =>
          refine codeAny_handlers_suite_as (HandSPX.lands_againZ flp fun h4 fl4 up4 => ?_)
          obtain ⟨oe4, vs4, he4, hz4, hd4⟩ := fl4.there
          have J4 : Inv X pins σ' (upd H' a (exq a cls d)) { s' with heap := h4 } := landX J nb fl4.1 (upp.trans up4) os ag fl4.2.1 (by rw [hs]; exact nfr) he4 hz4 hd4 na
          refine store_ok (X := X.suite a (X.pn ++ pins)) (v := .ref a) (toSuite J4) hN hi hloc rfl (fun s5 S5 => ?_) (.inr hln)
          refine wpAny_mono ((hsu a (X.pn ++ pins)).run [] s5 _ _ _ S5 (hyes rfl a na)) (fun f s6 hsp => ?_) (fun _ _ z => False.elim z)
          have fin : ∀ {σ6 : L2.St} {H6 : Hp} {Q : Shared → Prop}, Inv (X.suite a (X.pn ++ pins)) [] σ6 H6 s6 → (∀ s7, Inv X pins (σ6.set i none) H6 s7 → Q s7) →
              wpAny (model X.prog X.w) X.A (do bindName X.env n .none; unbindBehindTheSuite X.env n pos') (fun _ s7 => Q s7) X.xe s6 := fun S6 hq => gone_ok (ofSuite S6 ok) hN hi hln hq
          cases f with
          | next =>
            obtain ⟨σ6, H6, S6, q6⟩ := hsp
            exact fin S6 fun s7 J7 => ⟨_, _, J7, q6⟩
          | brk =>
            obtain ⟨σ6, H6, S6, q6⟩ := hsp
            exact fin S6 fun s7 J7 => ⟨_, _, J7, q6⟩
          | cont =>
            obtain ⟨σ6, H6, S6, q6⟩ := hsp
            exact fin S6 fun s7 J7 => ⟨_, _, J7, q6⟩
          | ret u =>
            obtain ⟨v6, σ6, H6, S6, r6, q6⟩ := hsp
            exact fin S6 fun s7 J7 => ⟨_, _, _, J7, r6, q6⟩
        | false =>
          show wpAny _ X.A (handleBy (.ref a) X.env hds2) _ _ _
          exact ih _ flp upp (hno rfl)
    exact go hh h3 fl3 (up.trans up3) wish
  · cases f with
    | next =>
      obtain ⟨σ', H', J', q⟩ := hsp
      exact wpAny_execs_nil ⟨σ', H', J'.ofTry ok, q⟩
    | brk =>
      obtain ⟨σ', H', J', q⟩ := hsp
      exact ⟨σ', H', J'.ofTry ok, q⟩
    | cont =>
      obtain ⟨σ', H', J', q⟩ := hsp
      exact ⟨σ', H', J'.ofTry ok, q⟩
    | ret u =>
      obtain ⟨v, σ', H', J', r, q⟩ := hsp
      exact ⟨v, σ', H', J'.ofTry ok, r, q⟩
/-- e.f of an exception that is known as a value -/
def tXq (K : Frag) (f : Str) (te : TE) : TE := fun σ H Q => te σ H fun x H1 => ∃ (a C dd : Addr) (fs : List (Str × V)) (v : V), x = .ref a ∧ H1 a = some (exq a (.ref C) (some dd)) ∧ H1 dd = some (.xd fs) ∧ fs.lookup f = some v ∧ XfC K C ∧ findIn K (.ref C) f = some none ∧ Q v H1
theorem pe_xq {X : Cx} {e : Expr} {te : TE} {f : Str} {pos : Pos} (he : PE X e te) (hb : attributeBase e f X.env (eval e X.env) = eval e X.env := by rfl) : PE X (.Attribute e f pos) (tXq X.K f te) := by
  refine ⟨fun pins s σ H Q I h => attr_of hb (thn (he.run pins s σ H _ I h) fun u s1 hh => ?_)⟩
  obtain ⟨x, H1, I1, rx, a, C, dd, fs, v, ex, ea, ed, l, T, hno, q⟩ := hh
  subst ex
  have eu : u = Value.ref a := rx
  subst eu
  obtain ⟨o, vs, ha, hz, hd⟩ := exq_at I1.hok ea
  have hx : ObjOk X.prog X.w H1 s1.heap dd (.xd fs) := I1.hok dd _ ed
  obtain ⟨mA, hns, hr⟩ := hx
  obtain ⟨od, ho, hl⟩ := lookIn_ns hns
  obtain ⟨u, hu, ru⟩ := RelO.some_of (v := v) (o := mA f) (by rw [← l]; exact hr f)
  have J : InstAt s1.heap a o C (some od) := ⟨ha, hz.1, by unfold notCls; rw [hd] <;> rfl, by rw [hz.2.1]; exact ho⟩
  exact HandSPX.exc_get I1.kIn J T.ga T.gg T.exC (findObj_own T.hdC hno rfl (by rw [hl, hu])) (handed_of ru) ⟨v, H1, I1.tok _, ru, q⟩
/-! a, b = x, y within a suite -/
section
variable {prog : Program} {w : World} {A : Around} {E : Value → Shared → Prop} {s : Shared}
theorem tuple_end_hot {it t x1 : Addr} {i : Nat} {items : Array Value} {Q : Option Value → Shared → Prop} (hot : HotX.HotAt A x1 s.heap) (ne : x1 ≠ it) (hit : IsTupIter s.heap it t i) (ht : IsTup s.heap t items) (hx : items[i]? = none)
    (hQ : ∀ h', (∀ b o, b ≠ it → s.heap.get? b = some o → h'.get? b = some o) → Q none { s with heap := h' }) : wpAny (model prog w) A (pyNext (.ref it)) Q E s := by
  obtain ⟨hh, o1, v1, g1, d1, c1⟩ := hot
  obtain ⟨o, ho, hc, hd⟩ := id hit
  obtain ⟨ol, hol, _, nl, hdl⟩ := ht
  unfold pyNext
  refine wpAny_bind (wpAny_attempt (wpAny_callSpecial?_slot (name := Str.ofString "__next__") hit.typeIs slot_tupleiter_next (wpAny_call_entry slot_tupleiter_next hit.typeIs entry_tupleiter_next ?_ (args_tupleiter_next _))))
  show wpAny _ _ (bind (field (.ref it) 0) _) _ _ _
  refine wpAny_bind (wpAny_field ho hd (x := .ref t) rfl ?_)
  show wpAny _ _ (ite ((Value.ref t == Value.none) = true) _ _) _ _ _
  rw [if_neg (show ¬ ((Value.ref t == Value.none) = true) by simp)]
  show wpAny _ _ (bind (field (.ref it) 1) _) _ _ _
  refine wpAny_bind (wpAny_field ho hd (x := .int i 0) rfl ?_)
  show wpAny _ _ (bind (seqItems? (.ref t)) _) _ _ _
  refine wpAny_bind (wpAny_seqItems hol hdl ?_)
  simp only [Int.toNat_natCast, hx]
  refine wpAny_bind (wpAny_rule (wpAny_bind (wpAny_setField ho hd (by simp) ?_)))
  show wpAny _ _ (bind (newExc (.type "StopIteration") []) _) _ _ _
  refine wpAny_bind ?_
  simp only [newExc, newTuple]
  refine wpAny_bind (wpAny_newObj_type ?_ (by size_fits))
  refine wpAny_bind (m := firstArgMember _ _) (wpAny_of_eq (a := Value.none) (by first | rfl | (simp only [firstArgMember]; rfl)) (wpAny_newObj_type ?_ (by size_fits)))
  have gx : ∀ {b : Addr} {u : Obj}, b ≠ it → s.heap.get? b = some u → (s.heap.update it (Obj.mapFields (·.setIfInBounds 0 Value.none))).get? b = some u := fun hb e => (Heap.get?_update_other _ _ (Ne.symm hb)).trans e
  have g3 := Heap.get?_push_of_some { cls := .type "tuple", data := .seq #[] } (gx ne g1)
  refine HotX.raiseNew_hot ⟨hh, o1, v1, Heap.get?_push_of_some _ g3, d1, c1⟩ (Nat.ne_of_lt (Heap.lt_size g3)) (Heap.get?_push_size _ rfl) rfl (by first | (simp; done) | (simp; omega) | (simp only [Array.size_append]; simp; omega)) ?_
  refine wpAny_bind (wpAny_isInstance (T := "StopIteration") (b := true) ⟨_, Heap.get?_update_self _ (Heap.get?_push_size _ rfl) rfl, rfl⟩ isSubtype_stop ?_)
  refine wpAny_pure (hQ _ fun b u hb e => ?_)
  have e2 := Heap.get?_push_of_some { cls := .type "tuple", data := .seq #[] } (gx hb e)
  rw [Heap.get?_update_other _ _ (Nat.ne_of_gt (Heap.lt_size e2))]
  exact Heap.get?_push_of_some _ e2
theorem unpack_hot {t x1 : Addr} {items : Array Value} {Q : List Value → Shared → Prop} (hot : HotX.HotAt A x1 s.heap) (ht : IsTup s.heap t items)
    (hQ : ∀ h', (∀ b o, s.heap.get? b = some o → h'.get? b = some o) → Q items.toList { s with heap := h' }) : wpAny (model prog w) A (unpackItems (.ref t) items.size none) Q E s := by
  have hlt : t ≠ s.heap.objs.size := by obtain ⟨o, ho, _⟩ := ht; exact Nat.ne_of_lt (Heap.lt_size ho)
  obtain ⟨hh, o1, v1, g1, d1, c1⟩ := hot
  have ne : x1 ≠ s.heap.objs.size := Nat.ne_of_lt (Heap.lt_size g1)
  unfold unpackItems notIterableAtAll
  refine wpAny_bind (wpAny_bind (wpAny_specialOf ht.typeIs slot_tuple_iter.lookup (wpAny_pure ?_)))
  simp only [Bool.false_eq_true, if_false]
  refine wpAny_bind (wpAny_holding (iter_tuple ht (wpAny_bind (wpAny_holding (draw_tuple hlt items.size 0 _ _ ⟨_, Heap.get?_push_size _ rfl, rfl, rfl⟩ (ht.push _) (by omega) fun h₁ hit₁ hs₁ => ?_)))))
  have hall : List.take items.size (List.drop 0 items.toList) = items.toList := by rw [List.drop_zero]; exact List.take_of_length_le (by simp)
  rw [hall, if_neg (by simp)]
  have g2 : h₁.get? x1 = some o1 := (hs₁.2 x1 ne).trans (Heap.get?_push_of_some _ g1)
  refine wpAny_bind (wpAny_holding (tuple_end_hot (x1 := x1) ⟨hh, o1, v1, g2, d1, c1⟩ ne hit₁ ((ht.push _).extBut hs₁.extBut hlt) (by simp) fun h₂ he₂ => ?_))
  simp only [Option.isSome_none, Bool.false_eq_true, if_false]
  refine wpAny_pure (hQ h₂ fun b o e => ?_)
  have nb : b ≠ s.heap.objs.size := Nat.ne_of_lt (Heap.lt_size e)
  exact he₂ b o nb ((hs₁.2 b nb).trans (Heap.get?_push_of_some _ e))
end
/-- a, b = x, y where an exception is handled, known at a0 -/
def tParH (a0 : Addr) (i j : Nat) (ta : TA) : TS := fun D σ H => ta σ H fun vs H1 => ∃ v w cls d, vs = [v, w] ∧ H1 a0 = some (exq a0 cls d) ∧ D.nx ((σ.set i (some v)).set j (some w)) H1
theorem ps_parH {X : Cx} {a0 : Addr} {i j : Nat} {x y : Str} {a b : Expr} {ta : TA} {px py pt pos : Pos} {kt k2 pt2} (hh : X.A.handled = some (.ref a0)) (hN : X.N.Nodup) (hi : X.N[i]? = some x) (hj : X.N[j]? = some y) (hij : i ≠ j)
    (hx : X.env.scope.names.lookup x = some .local) (hy : X.env.scope.names.lookup y = some .local) (ha : PA X [a, b] ta)
    (hw : swappedStores [.Tuple [.Name x px, .Name y py] kt pt] (.Tuple [a, b] k2 pt2) X.env = pure (some [x, y]))
    (hs : swapsWithSole [.Tuple [.Name x px, .Name y py] kt pt] (.Tuple [a, b] k2 pt2) pos.line X.env = pure false := by rfl) :
    PS X (.Assign [.Tuple [.Name x px, .Name y py] kt pt] (.Tuple [a, b] k2 pt2) pos) (tParH a0 i j ta) := by
  refine ⟨fun pins s σ H D I h => ?_⟩
  rw [exec_Assign_arm]
  refine wpAny_bind (wpAny_standAt ?_)
  rw [hs]
  refine wpAny_bind (wpAny_pure ?_)
  rw [if_neg (by decide)]
  refine wpAny_bind (Tuple_ (thn (ha.run _ pins s σ H _ I h) fun us s1 hu => ?_))
  obtain ⟨vs, H1, I1, r1, v, w, cls, d, e1, ex, q1⟩ := hu
  subst e1
  obtain ⟨u1, u2, rfl, rv, rw'⟩ : ∃ u1 u2, us = [u1, u2] ∧ RelV v u1 ∧ RelV w u2 := by
    cases r1 with
    | cons p q => cases q with
      | cons p' q' => cases q'; exact ⟨_, _, rfl, p, p'⟩
  refine wpAny_newObj_type ?_ (by show 2 ≤ sizeLine; decide)
  have I2 : Inv X pins σ H1 { s1 with heap := s1.heap.push { cls := .type "tuple", data := .seq [u1, u2].toArray } } := I1.kept (t' := s1.toks) fun b o e => Heap.get?_push_of_some _ e
  obtain ⟨o, ws, ho, hz, hd⟩ := exq_at I2.hok ex
  rw [hw]
  refine wpAny_bind (wpAny_pure ?_)
  show wpAny (model X.prog X.w) X.A (do rule "assign.swapped-stores"; let items ← unpackItems (.ref s1.heap.objs.size) 2 none; assignInOrder [fun v => bindName X.env y v, fun v => bindName X.env x v] items.reverse; pure Flow.next) _ _ _
  refine wpAny_bind (wpAny_rule (wpAny_bind (unpack_hot (x1 := a0) (items := #[u1, u2]) ⟨hh, o, ws, ho, hd, hz.2.2 ws hd⟩ (IsTup.new s1.heap _) fun h' keep => ?_)))
  have I3 := I2.kept (h' := h') (t' := s1.toks) keep
  show wpAny _ _ (assignInOrder [fun v => bindName X.env y v, fun v => bindName X.env x v] [u2, u1] >>= fun _ => pure Flow.next) _ _ _
  refine wpAny_bind (assignInOrder_cons (wpAny_bindName (store_ok I3 hN hj (.inl hy) rw' (fun s2 I4 => ?_) (.inr hy))))
  refine assignInOrder_cons (wpAny_bindName (store_ok I4 hN hi (.inl hx) rv (fun s3 I5 => assignInOrder_nil (wpAny_pure ?_)) (.inr hx)))
  rw [List.set_comm _ _ (Ne.symm hij)] at I5
  exact ⟨_, H1, I5, q1⟩
end
end TrT

namespace LmN
open PySem PySem.Spec PyProof.Rows L2 PySem.W
/-! a lambda without parameters handed to a def that catches what it raises (context None) -/
/-- the context of the lambda's body -/
def lamC (X : Cx) (A : Around) (outer : List Env) (s : Shared) (H : Hp) (E : XK) (scope : Scope) (f c : Addr) : Cx :=
  (LamX.lamCx X A outer s H E scope f c).wish fun e s' => wpAny (model X.prog X.w) (A.deeper (LamX.lamEnv X scope s.heap.objs.size f c)) (leaving (LamX.lamEnv X scope s.heap.objs.size f c) e) (fun _ s2 => L2N.CX X.prog X.w outer H s E e s2) (fun e2 s2 => L2N.CX X.prog X.w outer H s E e2 s2) s'
/-- what its body lets out -/
theorem lam_takes {X : Cx} {A : Around} {outer : List Env} {s : Shared} {H : Hp} {E : XK} {scope : Scope} {f c : Addr} : L2N.Takes (lamC X A outer s H E scope f c) (fun cls d _ H => E cls d H) := L2N.takes_of rfl rfl rfl rfl
/-- what was handed over is called: slot i holds it, E and Q0 as narrow as one likes -/
def tAct (W : WX) (f c : Addr) (i : Nat) (q : Str) (tl : XK → Hp → VK → Prop) : TE := fun σ H Q => σ[i]? = some (some (.ref f)) ∧ H c = some (LamX.CodeO c q) ∧ ∃ (E : XK) (Q0 : VK), (∀ cls d H', E cls d H' → W cls d σ H') ∧ (∀ v H', Q0 v H' → Q v H') ∧ tl E H Q0
section
variable {X : Cx} {pins : List (Addr × Obj)} {σ : L2.St} {H : Hp} {s : Shared}
abbrev gCx (X : Cx) (CXg : CXT) (Eg : XK) (Ng : List Str) (qg : Str) (sg : Scope) (g : Addr) (cdg : Value) (s : Shared) (H : Hp) : Cx := cxOf CXg X.prog X.w X.K X.mg X.base Ng qg sg g cdg X.A X.stack s H Eg
theorem act {CXg : CXT} {Eg : XK} {Ng : List Str} {qg : Str} {sg : Scope} {g f c : Addr} {cdg pm ctv : Value} {params : Arguments} {body : Expr} {scope : Scope} {k i : Nat} {a : Str} {pn : List (Addr × Obj)} {xe : Value → Shared → Prop} {W : WX} {tb : XK → TE} {p1 p2 : Pos}
    (I : Inv X pins σ H s) (L : LamX.LamS X.env.scope scope) (hf : s.heap.get? f = some (kla_obj "<lambda>" (X.env.qual ++ "<lambda>") params body scope (cloFrom X.env.cells scope.names []) pm c ctv)) (nf : H f = none) (hfr : f ∉ frs X.stack)
    (hbind : bindArgs (kla_fn "<lambda>" (X.env.qual ++ "<lambda>") params body scope (cloFrom X.env.cells scope.names []) pm (.ref c) ctv) ⟨[], []⟩ = pure [])
    (tk : L2N.Takes ((gCx X CXg Eg Ng qg sg g cdg s H).tr pn xe) W) (hr : Room (k + 1) (X.A.deeper (envOfC qg sg s.heap.objs.size g cdg)))
    (hbody : ∀ (A : Around) (outer : List Env) (s : Shared) (H : Hp) (E : XK), Room k (A.deeper (LamX.lamEnv X scope s.heap.objs.size f c)) → PE (lamC X A outer s H E scope f c) body (tb E))
    (hN : Ng[i]? = some a) (hv : Vis sg a) (hd : (a == ("__debug__" : Str)) = false) (hcd : (a == ("__classdict__" : Str)) = false) :
    PE ((gCx X CXg Eg Ng qg sg g cdg s H).tr pn xe) (.Call (.Name a p1) [] [] p2) (tAct W f c i (X.env.qual ++ "<lambda>") fun E HZ Q => tb E σ HZ Q) := by
  refine ⟨fun pinsZ sZ σZ HZ Q IZ h => ?_⟩
  obtain ⟨hs, hc, E, Q0, hE, hQ, ht⟩ := h
  refine wpAny_Call_Name_kw (thn ((pe_var (pos := p1) (i := i) hN hv hd hcd).run pinsZ sZ σZ HZ (fun v H1 => v = .ref f ∧ H1 = HZ) IZ ⟨.ref f, hs, rfl, rfl⟩) fun u s1 hu => ?_)
  obtain ⟨v, H1, I1, r1, ev, eH⟩ := hu
  subst ev eH
  have eu : u = Value.ref f := r1
  subst eu
  have fo : s1.heap.get? f = _ := I1.base.keep f _ hf nf hfr (fun z => nomatch (show f ∈ ([] : List Addr) from z))
  refine callWith_F0 ⟨_, _, _, _, fo⟩ ?_
  obtain ⟨⟨oc, vs, t, hoc, hdc, hvc⟩, _, _⟩ := I1.hok c _ hc
  have rc : codeAny (model X.prog X.w) (X.A.deeper (envOfC qg sg s.heap.objs.size g cdg)) (.call (.ref f) ⟨[], []⟩) (CR (L2N.CX X.prog X.w) (envOfC qg sg s.heap.objs.size g cdg :: X.stack) X.prog X.w H1 s1 Q E) s1 := by
    refine kla_callFunE hr.depth fo rfl L.co L.gen rfl ⟨c, oc, vs, t, rfl, hoc, hdc, hvc⟩ ?_
    rw [hbind]
    refine wpAny_pure (wpAny_newFunctionEnv (fun y hy => (L.own y hy).2) (fun y hy => absurd hy (by simp)) (fun h₁ hns hsb => ⟨I1.nolimit.fresh _ hsb, ?_⟩) L.kind)
    show codeAny _ _ (.expr body (LamX.lamEnv X scope s1.heap.objs.size f c)) _ _
    have kp : ∀ b o, s1.heap.get? b = some o → h₁.get? b = some o := fun b o e => hsb.extBut b o (Nat.ne_of_lt (Heap.lt_size e)) (Heap.get?_push_of_some _ e)
    have un : Un (frs X.stack) [] H H1 s.heap s1.heap := I1.base
    have J0 := LamX.lam_start2 (A := X.A.deeper (envOfC qg sg s.heap.objs.size g cdg)) (outer := envOfC qg sg s.heap.objs.size g cdg :: X.stack) (E := E) (f := f) (c' := c) (tk := s1.toks + ([] : List (Str × Value)).length) I L I1.env0 hr.hd un hns kp
    have J : Inv (lamC X (X.A.deeper (envOfC qg sg s.heap.objs.size g cdg)) (envOfC qg sg s.heap.objs.size g cdg :: X.stack) s1 H1 E scope f c) [] σ H1 _ := J0.wish _
    refine kla_codeExpr (wpAny_mono ((hbody _ _ s1 H1 E (hr.deeper _)).run [] _ _ H1 Q0 J ht) (fun v s' hq => ?_) fun e s' hq => hq)
    obtain ⟨w', H', J', rv, q⟩ := hq
    exact ⟨w', H', J'.os, J'.bare, J'.base, J'.hok, rv, hQ _ _ q⟩
  refine wpAny_call (codeAny_mono rc fun r s' hq => ?_)
  cases r with
  | error e => exact tk e s' (L2N.XE.of_call I1 hE hq)
  | ok fl =>
    cases fl with
    | ret u => exact I1.after hq
    | next => exact False.elim hq
    | brk => exact False.elim hq
    | cont => exact False.elim hq
end
/-- the def that calls what it got: TT tells what it makes of the lambda's reading -/
def Gives (X : Cx) (Ng : List Str) (x : Str) (sg : Scope) (g : Addr) (cdg : Value) (bg : List Stmt) (a q : Str) (k : Nat) (TT : (XK → Hp → VK → Prop) → Hp → VK → Prop) : Prop :=
  ∀ (f c : Addr) (s : Shared) (H : Hp) (Q : VK) (tl : XK → Hp → VK → Prop), Room k (X.A.deeper (envOfC x sg s.heap.objs.size g cdg)) →
    (∀ (W : WX) (pn : List (Addr × Obj)) (xe : Value → Shared → Prop) (p1 p2 : Pos), L2N.Takes ((gCx X L2.CX0 L2.E0 Ng x sg g cdg s H).tr pn xe) W →
      PE ((gCx X L2.CX0 L2.E0 Ng x sg g cdg s H).tr pn xe) (.Call (.Name a p1) [] [] p2) (tAct W f c 0 q tl)) →
    H c = some (LamX.CodeO c q) → TT tl H Q →
    ∃ t, PSs (gCx X L2.CX0 L2.E0 Ng x sg g cdg s H).nox bg t ∧ t { nx := fun _ H' => Q .non H', rt := Q } (L2.start Ng [.ref f]) H
theorem pe_lam {X : Cx} {T : List (Addr × Str)} {TT : (XK → Hp → VK → Prop) → Hp → VK → Prop} {x a : Str} {g c P : Addr} {k : Nat} {pg : Arguments} {bg : List Stmt} {sg : Scope} {dV kV doc pm cdv ct oc : Value} {an od : Option Addr} {osl : Array (Option Value)} {Ng : List Str}
    {params : Arguments} {body : Expr} {scope : Scope} {t : XK → TE} {p lpos pos : Pos} (hg : Gl X x) (hm : X.mg x = some (.ref g)) (hk : keepIn X.K (.ref g) = true) (lk : X.K.lookup g = some ⟨oc, od, .func (fnOf x x pg bg sg dV kV doc pm an cdv ct), osl⟩) (hcg : codeIn X.K cdv x = true)
    (hb : L2.Binds X.K (fnOf x x pg bg sg dV kV doc pm an cdv ct) [a] []) (Sg : FnScope Ng [a] sg) (hNg : Ng[0]? = some a) (hva : Vis sg a) (hG : Gives X Ng x sg g cdv bg a (X.env.qual ++ "<lambda>") (k + 1) TT)
    (TB : LamX.TabB X.base X.mg c P) (hcode : X.env.code = .ref c) (hmT : (P, X.env.qual ++ "<lambda>") ∈ T) (hu : ∀ p ∈ T, p.1 = P → p.2 = X.env.qual ++ "<lambda>") (hr : Room (k + 2) X.A) (L : LamX.LamS X.env.scope scope) (hdef : defaultsOf params X.env = ([], []))
    (hbind : ∀ (q : Str) (cl : List (Str × Addr)) (pm cv ctv : Value), bindArgs (kla_fn "<lambda>" q params body scope cl pm cv ctv) ⟨[], []⟩ = pure [])
    (hbody : ∀ (A : Around) (outer : List Env) (s : Shared) (H : Hp) (E : XK) (f c' : Addr), Room k (A.deeper (LamX.lamEnv X scope s.heap.objs.size f c')) → PE (lamC X A outer s H E scope f c') body (t E))
    (hdb : (x == ("__debug__" : Str)) = false := by decide) (hd : (a == ("__debug__" : Str)) = false := by decide) (hcd : (a == ("__classdict__" : Str)) = false := by decide) :
    PE X (.Call (.Name x p) [.Lambda params body scope lpos] [] pos) (LamX.tLam T TT t) := by
  refine ⟨fun pins s σ H Q I h => ?_⟩
  obtain ⟨hT, h⟩ := h
  refine wpAny_Call_Name_kw (ld_glob I hg hm (callWith_K (h₀ := X.base) I.ok.mod.kin hk ?_ (by rfl) (by rfl)) hdb)
  show wpAny _ _ (spliced ((false, eval (.Lambda params body scope lpos) X.env) :: backTo pos (starEach [] X.env))) _ _ s
  refine Calls.spliced_cons (LamX.lam_make2 I TB hcode hmT hu hT hdef (L.has I.ok) fun f c2 pm2 ctv H1 s1 I1 eN T1 hf nf hfr hco => Calls.spliced_nil ⟨I1.kIn, ?_⟩)
  have rc : codeAny (model X.prog X.w) X.A (.call (.ref g) ⟨[.ref f], []⟩) (CR L2.CX0 X.stack X.prog X.w H1 s1 Q L2.E0) s1 := by
    refine LamX.run_ofS (N := Ng) (ps := [a]) (us := [.ref f]) (vs := [.ref f]) lk hcg Sg hr I1.env0 (hb s1 [.ref f] I1.kIn rfl) (.cons rfl .nil) rfl fun hr2 => ?_
    obtain ⟨t2, ht2, hq2⟩ := hG f c2 s1 H1 Q (fun E H' Q' => t E σ H' Q') hr2 (fun W pn xe p1 p2 tk => act (i := 0) I1 L hf nf hfr (hbind _ _ _ _ _) tk hr2 (fun A outer s H E hr3 => hbody A outer s H E f c2 hr3) hNg hva hd hcd) hco (h H1 eN T1)
    exact ⟨t2, ht2.nox, hq2⟩
  refine wpAny_call (codeAny_mono rc fun r s2 hq => ?_)
  cases r with
  | error e => exact (show False from hq).elim
  | ok fl =>
    cases fl with
    | ret u => exact I1.after hq
    | next => exact False.elim hq
    | brk => exact False.elim hq
    | cont => exact False.elim hq
/-- .. of a def of the text -/
theorem pe_lamF {X : Cx} {T : List (Addr × Str)} {TT : (XK → Hp → VK → Prop) → Hp → VK → Prop} {x a : Str} {g c P : Addr} {k : Nat} {st : Stmt} {fd : FuncData} {Ng : List Str} {params : Arguments} {body : Expr} {scope : Scope} {t : XK → TE} {p lpos pos : Pos}
    (hg : Gl X x) (hm : X.mg x = some (.ref g)) (F : L2.Fun X.K x x st g fd) (hb : L2.Binds X.K fd [a] []) (Sg : FnScope Ng [a] (defScope st)) (hNg : Ng[0]? = some a) (hva : Vis (defScope st) a)
    (hG : ∀ cdv : Value, Gives X Ng x (defScope st) g cdv (defBody st) a (X.env.qual ++ "<lambda>") (k + 1) TT)
    (TB : LamX.TabB X.base X.mg c P) (hcode : X.env.code = .ref c) (hmT : (P, X.env.qual ++ "<lambda>") ∈ T) (hu : ∀ p ∈ T, p.1 = P → p.2 = X.env.qual ++ "<lambda>") (hr : Room (k + 2) X.A) (L : LamX.LamS X.env.scope scope) (hdef : defaultsOf params X.env = ([], []))
    (hbind : ∀ (q : Str) (cl : List (Str × Addr)) (pm cv ctv : Value), bindArgs (kla_fn "<lambda>" q params body scope cl pm cv ctv) ⟨[], []⟩ = pure [])
    (hbody : ∀ (A : Around) (outer : List Env) (s : Shared) (H : Hp) (E : XK) (f c' : Addr), Room k (A.deeper (LamX.lamEnv X scope s.heap.objs.size f c')) → PE (lamC X A outer s H E scope f c') body (t E))
    (hdb : (x == ("__debug__" : Str)) = false := by decide) (hd : (a == ("__debug__" : Str)) = false := by decide) (hcd : (a == ("__classdict__" : Str)) = false := by decide) :
    PE X (.Call (.Name x p) [.Lambda params body scope lpos] [] pos) (LamX.tLam T TT t) := by
  obtain ⟨oc, od, kV, doc, pm, an, cdv, ct, osl, rfl, lk, hcd'⟩ := F.ex
  exact pe_lam hg hm F.kp lk hcd' hb Sg hNg hva (hG cdv) TB hcode hmT hu hr L hdef hbind hbody hdb hd hcd
/-- a def of the text whose code object is known -/
structure FunC (K : Frag) (x qual : Str) (st : Stmt) (f : Addr) (fd : FuncData) (c : Addr) : Prop where
  ex : ∃ (oc : Value) (od : Option Addr) (kV doc pm : Value) (an : Option Addr) (ct : Value) (osl : Array (Option Value)), fd = fnOf x qual (defArgs st) (defBody st) (defScope st) .none kV doc pm an (.ref c) ct ∧ K.lookup f = some ⟨oc, od, .func fd, osl⟩ ∧ codeIn K (.ref c) qual = true
theorem FunC.ok {P : Program} {w : World} {K : Frag} {mg : Str → Option Value} {base : Heap} {x qual : Str} {st : Stmt} {f c : Addr} {fd : FuncData} {N ps : List Str} {k : Nat} {sp : Sp} (F : FunC K x qual st f fd c) (S : FnScope N ps (defScope st)) (len : ∀ vs H Q E, sp vs H Q E → vs.length = ps.length)
    (hbody : ∀ (A : Around) (outer : List Env) (s : Shared) (H : Hp) (vs : List V) (Q : VK) (E : XK), Room k (A.deeper (envOfC qual (defScope st) s.heap.objs.size f (.ref c))) → sp vs H Q E →
      ∃ t, PSs (cxOf L2.CX0 P w K mg base N qual (defScope st) f (.ref c) A outer s H E).nox (defBody st) t ∧ t { nx := fun _ H' => Q .non H', rt := Q } (L2.start N vs) H) : FnOk P w K mg base L2.CX0 (k + 1) f fd ps sp := by
  obtain ⟨oc, od, kV, doc, pm, an, ct, osl, rfl, lk, hcd⟩ := F.ex
  refine fn_of lk hcd S len fun A outer s H vs Q E hr hsp => ?_
  obtain ⟨t, h, q⟩ := hbody A outer s H vs Q E hr hsp
  exact ⟨t, h.nox, q⟩
theorem okN {P : Program} {w : World} {K : Frag} {mg : Str → Option Value} {base : Heap} {x qual : Str} {st : Stmt} {f : Addr} {fd : FuncData} {N ps : List Str} {k : Nat} {sp : Sp} (F : L2.Fun K x qual st f fd) (S : FnScope N ps (defScope st)) (len : ∀ vs H Q E, sp vs H Q E → vs.length = ps.length)
    (hbody : ∀ (cdv : Value) (A : Around) (outer : List Env) (s : Shared) (H : Hp) (vs : List V) (Q : VK) (E : XK), Room k (A.deeper (envOfC qual (defScope st) s.heap.objs.size f cdv)) → sp vs H Q E →
      ∃ t, PSs (cxOf (L2N.CX P w) P w K mg base N qual (defScope st) f cdv A outer s H E) (defBody st) t ∧ t { nx := fun _ H' => Q .non H', rt := Q } (L2.start N vs) H) : FnOk P w K mg base (L2N.CX P w) (k + 1) f fd ps sp := by
  obtain ⟨oc, od, kV, doc, pm, an, cdv, ct, osl, rfl, lk, hcd⟩ := F.ex
  exact fn_of lk hcd S len fun A outer s H vs Q E hr hsp => hbody cdv A outer s H vs Q E hr hsp
/-- a def that may raise, where it does not -/
theorem fn0_of {P : Program} {w : World} {K : Frag} {mg : Str → Option Value} {base : Heap} {k : Nat} {f : Addr} {fd : FuncData} {ps : List Str} {sp spx : Sp} (F : FnOk P w K mg base (L2N.CX P w) k f fd ps spx) (h : ∀ vs H Q E, sp vs H Q E → spx vs H Q L2.E0) : FnOk P w K mg base L2.CX0 k f fd ps sp := by
  refine ⟨fun vs H Q E hs => F.len _ _ _ _ (h _ _ _ _ hs), fun A outer s H args us vs Q E hr e0 hb r hs => codeAny_mono (F.run A outer s H args us vs Q L2.E0 hr e0 hb r (h _ _ _ _ hs)) fun res s' hq => ?_⟩
  cases res with
  | error e =>
    obtain ⟨_, _, _, _, _, _, _, _, _, _, _, _, z⟩ := hq
    exact z.elim
  | ok fl => cases fl <;> exact hq
/-! defs called where an exception is handled, that raise nothing -/
structure FnS (P : Program) (w : World) (K : Frag) (mg : Str → Option Value) (base : Heap) (k : Nat) (f : Addr) (fd : FuncData) (ps : List Str) (sp : Sp) : Prop where
  len : ∀ vs H Q E, sp vs H Q E → vs.length = ps.length
  run : ∀ (A : Around) (outer : List Env) (s : Shared) (H : Hp) (args : Args) (us : List Value) (vs : List V) (Q : VK), L2H.RoomH k A → Env0 P w K mg base A outer s H → BindsTo s fd args (ps.zip us) → Vals vs us → sp vs H Q L2.E0 →
    codeAny (model P w) A (.call (.ref f) args) (CR L2.CX0 outer P w H s Q L2.E0) s
theorem pin_glob {P : Program} {w : World} {K : Frag} {mg : Str → Option Value} {base : Heap} {A : Around} {outer : List Env} {s : Shared} {H : Hp} (e0 : Env0 P w K mg base A outer s H) : ∃ p, L2H.PinOk outer H s p := by
  obtain ⟨o, es, ep, ho, hd, _⟩ := e0.mod.glob
  obtain ⟨h1, h2⟩ := e0.bs _ _ ho
  refine ⟨(mainGlobals, o), h1, h2, fun z => ?_, fun v z => ?_⟩
  · obtain ⟨q, _⟩ := e0.funs.mem z
    rw [ho] at q
    cases q
  · have z' : o.data = .cell v := z
    rw [hd] at z'
    cases z'
theorem fnS_of {P : Program} {w : World} {K : Frag} {mg : Str → Option Value} {base : Heap} {k : Nat} {f : Addr} {x qual : Str} {st : Stmt} {fd : FuncData} {N ps : List Str} {sp : Sp} (F : L2.Fun K x qual st f fd) (S : FnScope N ps (defScope st)) (len : ∀ vs H Q E, sp vs H Q E → vs.length = ps.length)
    (hbody : ∀ (cdv : Value) (A : Around) (outer : List Env) (s : Shared) (H : Hp) (vs : List V) (Q : VK) (p : Addr × Obj), L2H.RoomH k (A.deeper (envOfC qual (defScope st) s.heap.objs.size f cdv)) → sp vs H Q L2.E0 →
      ∃ t, PSs (L2H.cxH L2.CX0 P w K mg base N qual (defScope st) f cdv A outer s H L2.E0 p).nox (defBody st) t ∧ t { nx := fun _ H' => Q .non H', rt := Q } (L2.start N vs) H) :
    FnS P w K mg base (k + 1) f fd ps sp := by
  obtain ⟨oc, od, kV, doc, pm, an, cdv, ct, osl, rfl, lk, hcd⟩ := F.ex
  refine ⟨len, fun A outer s H args us vs Q hr e0 hb r hsp => ?_⟩
  have stay : ∀ b o, base.get? b = some o → s.heap.get? b = some o := fun b o e => (e0.bs b o e).1
  have KX : K.In s.heap := e0.mod.kin.keeps stay
  obtain ⟨p, hp⟩ := pin_glob e0
  refine codeAny_call_function hr.depth (KX _ _ lk) rfl S.co S.gen rfl (codeRec_of KX hcd) (hb _ _ _ _ ?_)
  refine wpAny_newFunctionEnv_cells S.kind (fun y hy => ?_) fun env he s1 x => ?_
  · rcases S.par y.1 (List.of_mem_zip (show (y.1, y.2) ∈ _ from hy)).1 with z | z
    · exact .inl z
    · exact .inr ⟨z, cellsFrom_some _ _ _ (.inl z)⟩
  subst he
  refine ⟨(e0.mod.nolimit.keeps stay).keeps x.toInCall.keep, codeAny_func ?_⟩
  obtain ⟨t, ht, hq⟩ := hbody cdv A outer s H vs Q p (hr.deeper _) hsp
  have I := L2H.inv_startH (CX := L2.CX0) (E := L2.E0) S hp e0 (len _ _ _ _ hsp) r x
  refine wpAny_mono (ht.nox.run [] s1 (L2.start N vs) H _ I hq) (fun fl s' hs => ?_) fun e s' hs => hs
  cases fl with
  | brk => obtain ⟨_, _, _, z⟩ := hs; exact False.elim z
  | cont => obtain ⟨_, _, _, z⟩ := hs; exact False.elim z
  | ret u => obtain ⟨v, σ', H', J, rv, q⟩ := hs; exact ⟨v, H', J.os, J.bare, J.base, J.hok, rv, q⟩
  | next => obtain ⟨σ', H', J, q⟩ := hs; exact ⟨.non, H', J.os, J.bare, J.base, J.hok, rfl, q⟩
theorem pe_callS {X : Cx} {k : Nat} {f : Addr} {fd : FuncData} {ps : List Str} {sp : Sp} {x : Str} {q pos : Pos} {e : Expr} {es : List Expr} {t : TA} (F : FnS X.prog X.w X.K X.mg X.base k f fd ps sp) (hr : L2H.RoomH k X.A) (hg : Gl X x) (hm : X.mg x = some (.ref f)) (hk : keepIn X.K (.ref f) = true)
    (hb : Binds X.K fd ps []) (ha : PA X (e :: es) t) (hdb : (x == ("__debug__" : Str)) = false := by decide) (he : starEach (e :: es) X.env = (false, eval e X.env) :: starEach es X.env := by rfl) (hpl : (backTo pos (starEach es X.env)).any (·.1) = false := by rfl) :
    PE X (.Call (.Name x q) (e :: es) [] pos) (fun σ H Q => t σ H fun vs H1 => sp vs H1 Q L2.E0) := by
  refine ⟨fun pins s σ H Q I h => wpAny_Call_Name_kw (ld_glob I hg hm ?_ hdb)⟩
  refine callWith_K (h₀ := X.base) I.ok.mod.kin hk (thn (ha.run pos pins s σ H _ I h) fun us s1 hu => ?_) he hpl
  obtain ⟨vs, H1, I1, r, q⟩ := hu
  have hl : us.length = ps.length := by rw [← r.length]; exact F.len _ _ _ _ q
  have b := hb s1 us I1.kIn (by rw [List.append_nil]; exact hl)
  rw [List.append_nil] at b
  refine ⟨I1.kIn, wpAny_call (codeAny_mono (F.run X.A X.stack s1 H1 ⟨us, []⟩ us vs Q hr I1.env0 b r q) fun res s2 hq => ?_)⟩
  cases res with
  | error e => exact False.elim hq
  | ok fl =>
    cases fl with
    | ret u => exact I1.after hq
    | next => exact False.elim hq
    | brk => exact False.elim hq
    | cont => exact False.elim hq
/-! what is handed on: g1 gets it and hands it to g2, which calls it -/
theorem un_more {fs : List Addr} {x : Addr} {H H1 H2 : Hp} {h h1 h2 : Heap} (a : Un fs [] H H1 h h1) (b : Un (x :: fs) [] H1 H2 h1 h2) (hx : ∀ o, h.get? x ≠ some o) : Un fs [] H H2 h h2 where
  keep := fun c ob q n hc hx' => b.keep c ob (a.keep c ob q n hc hx') (a.free c ob q n hx') (fun z => by
    rcases List.mem_cons.mp z with e | e
    · exact hx ob (e ▸ q)
    · exact hc e) hx'
  slot := fun c ob q n hc hx' => by
    obtain ⟨sl, e1⟩ := a.slot c ob q n hc hx'
    obtain ⟨sl', e2⟩ := b.slot c _ e1 (a.free c ob q n hx') (List.mem_cons_of_mem _ hc) hx'
    exact ⟨sl', e2⟩
  free := fun c ob q n hx' => by
    obtain ⟨o', e1⟩ := a.there c ob q hx'
    exact b.free c o' e1 (a.free c ob q n hx') hx'
  there := fun c ob q hx' => by
    obtain ⟨o', e1⟩ := a.there c ob q hx'
    exact b.there c o' e1 hx'
  tups := fun c xs q => b.tups c xs (a.tups c xs q)
  frzs := fun c o u q => b.frzs c o u (a.frzs c o u q)
  tbls := fun c ps q => by
    obtain ⟨m1, e1⟩ := a.tbls c ps q
    obtain ⟨m2, e2⟩ := b.tbls c _ e1
    exact ⟨m1 ++ m2, by rw [e2, Array.append_assoc]⟩
section
variable {X : Cx} {pins : List (Addr × Obj)} {σ : L2.St} {H : Hp} {s : Shared}
theorem actG {CXg : CXT} {Eg : XK} {Ng : List Str} {qg : Str} {sg : Scope} {g f c : Addr} {cdg pm ctv : Value} {params : Arguments} {body : Expr} {scope : Scope} {k i : Nat} {a : Str} {pn : List (Addr × Obj)} {xe : Value → Shared → Prop} {W : WX} {tb : XK → TE} {p1 p2 : Pos} {A0 : Around} {outer0 : List Env} {s2 : Shared} {H2 : Hp}
    (I : Inv X pins σ H s) (L : LamX.LamS X.env.scope scope) (hf : s.heap.get? f = some (kla_obj "<lambda>" (X.env.qual ++ "<lambda>") params body scope (cloFrom X.env.cells scope.names []) pm c ctv)) (nf : H f = none) (hfr : f ∉ frs X.stack)
    (hbind : bindArgs (kla_fn "<lambda>" (X.env.qual ++ "<lambda>") params body scope (cloFrom X.env.cells scope.names []) pm (.ref c) ctv) ⟨[], []⟩ = pure [])
    (hun : ∀ (H' : Hp) (h' : Heap), Un (frs outer0) [] H2 H' s2.heap h' → Un (frs X.stack) [] H H' s.heap h')
    (tk : L2N.Takes ((cxOf CXg X.prog X.w X.K X.mg X.base Ng qg sg g cdg A0 outer0 s2 H2 Eg).tr pn xe) W) (hr : Room (k + 1) (A0.deeper (envOfC qg sg s2.heap.objs.size g cdg)))
    (hbody : ∀ (A : Around) (outer : List Env) (s : Shared) (H : Hp) (E : XK), Room k (A.deeper (LamX.lamEnv X scope s.heap.objs.size f c)) → PE (lamC X A outer s H E scope f c) body (tb E))
    (hN : Ng[i]? = some a) (hv : Vis sg a) (hd : (a == ("__debug__" : Str)) = false) (hcd : (a == ("__classdict__" : Str)) = false) :
    PE ((cxOf CXg X.prog X.w X.K X.mg X.base Ng qg sg g cdg A0 outer0 s2 H2 Eg).tr pn xe) (.Call (.Name a p1) [] [] p2) (tAct W f c i (X.env.qual ++ "<lambda>") fun E HZ Q => tb E σ HZ Q) := by
  refine ⟨fun pinsZ sZ σZ HZ Q IZ h => ?_⟩
  obtain ⟨hs, hc, E, Q0, hE, hQ, ht⟩ := h
  refine wpAny_Call_Name_kw (thn ((pe_var (pos := p1) (i := i) hN hv hd hcd).run pinsZ sZ σZ HZ (fun v H1 => v = .ref f ∧ H1 = HZ) IZ ⟨.ref f, hs, rfl, rfl⟩) fun u s1 hu => ?_)
  obtain ⟨v, H1, I1, r1, ev, eH⟩ := hu
  subst ev eH
  have eu : u = Value.ref f := r1
  subst eu
  have un : Un (frs X.stack) [] H H1 s.heap s1.heap := hun _ _ I1.base
  have fo : s1.heap.get? f = _ := un.keep f _ hf nf hfr (fun z => nomatch (show f ∈ ([] : List Addr) from z))
  refine callWith_F0 ⟨_, _, _, _, fo⟩ ?_
  obtain ⟨⟨oc, vs, t, hoc, hdc, hvc⟩, _, _⟩ := I1.hok c _ hc
  have rc : codeAny (model X.prog X.w) (A0.deeper (envOfC qg sg s2.heap.objs.size g cdg)) (.call (.ref f) ⟨[], []⟩) (CR (L2N.CX X.prog X.w) (envOfC qg sg s2.heap.objs.size g cdg :: outer0) X.prog X.w H1 s1 Q E) s1 := by
    refine kla_callFunE hr.depth fo rfl L.co L.gen rfl ⟨c, oc, vs, t, rfl, hoc, hdc, hvc⟩ ?_
    rw [hbind]
    refine wpAny_pure (wpAny_newFunctionEnv (fun y hy => (L.own y hy).2) (fun y hy => absurd hy (by simp)) (fun h₁ hns hsb => ⟨I1.nolimit.fresh _ hsb, ?_⟩) L.kind)
    show codeAny _ _ (.expr body (LamX.lamEnv X scope s1.heap.objs.size f c)) _ _
    have kp : ∀ b o, s1.heap.get? b = some o → h₁.get? b = some o := fun b o e => hsb.extBut b o (Nat.ne_of_lt (Heap.lt_size e)) (Heap.get?_push_of_some _ e)
    have J0 := LamX.lam_start2 (A := A0.deeper (envOfC qg sg s2.heap.objs.size g cdg)) (outer := envOfC qg sg s2.heap.objs.size g cdg :: outer0) (E := E) (f := f) (c' := c) (tk := s1.toks + ([] : List (Str × Value)).length) I L I1.env0 hr.hd un hns kp
    have J : Inv (lamC X (A0.deeper (envOfC qg sg s2.heap.objs.size g cdg)) (envOfC qg sg s2.heap.objs.size g cdg :: outer0) s1 H1 E scope f c) [] σ H1 _ := J0.wish _
    refine kla_codeExpr (wpAny_mono ((hbody _ _ s1 H1 E (hr.deeper _)).run [] _ _ H1 Q0 J ht) (fun v s' hq => ?_) fun e s' hq => hq)
    obtain ⟨w', H', J', rv, q⟩ := hq
    exact ⟨w', H', J'.os, J'.bare, J'.base, J'.hok, rv, hQ _ _ q⟩
  refine wpAny_call (codeAny_mono rc fun r s' hq => ?_)
  cases r with
  | error e => exact tk e s' (L2N.XE.of_call I1 hE hq)
  | ok fl =>
    cases fl with
    | ret u => exact I1.after hq
    | next => exact False.elim hq
    | brk => exact False.elim hq
    | cont => exact False.elim hq
end
theorem actY {X Y : Cx} {pins : List (Addr × Obj)} {σ : L2.St} {H : Hp} {s : Shared} {CXg : CXT} {Eg : XK} {Ng : List Str} {qg : Str} {sg : Scope} {g f c : Addr} {cdg pm ctv : Value} {params : Arguments} {body : Expr} {scope : Scope} {k i : Nat} {a : Str} {pn : List (Addr × Obj)} {xe : Value → Shared → Prop} {W : WX} {tb : XK → TE} {p1 p2 : Pos} {s2 : Shared} {H2 : Hp}
    (hP : Y.prog = X.prog) (hw : Y.w = X.w) (hK : Y.K = X.K) (hmg : Y.mg = X.mg) (hba : Y.base = X.base)
    (I : Inv X pins σ H s) (L : LamX.LamS X.env.scope scope) (hf : s.heap.get? f = some (kla_obj "<lambda>" (X.env.qual ++ "<lambda>") params body scope (cloFrom X.env.cells scope.names []) pm c ctv)) (nf : H f = none) (hfr : f ∉ frs X.stack)
    (hbind : bindArgs (kla_fn "<lambda>" (X.env.qual ++ "<lambda>") params body scope (cloFrom X.env.cells scope.names []) pm (.ref c) ctv) ⟨[], []⟩ = pure [])
    (hun : ∀ (H' : Hp) (h' : Heap), Un (frs Y.stack) [] H2 H' s2.heap h' → Un (frs X.stack) [] H H' s.heap h')
    (tk : L2N.Takes ((gCx Y CXg Eg Ng qg sg g cdg s2 H2).tr pn xe) W) (hr : Room (k + 1) (Y.A.deeper (envOfC qg sg s2.heap.objs.size g cdg)))
    (hbody : ∀ (A : Around) (outer : List Env) (s : Shared) (H : Hp) (E : XK), Room k (A.deeper (LamX.lamEnv X scope s.heap.objs.size f c)) → PE (lamC X A outer s H E scope f c) body (tb E))
    (hN : Ng[i]? = some a) (hv : Vis sg a) (hd : (a == ("__debug__" : Str)) = false) (hcd : (a == ("__classdict__" : Str)) = false) :
    PE ((gCx Y CXg Eg Ng qg sg g cdg s2 H2).tr pn xe) (.Call (.Name a p1) [] [] p2) (tAct W f c i (X.env.qual ++ "<lambda>") fun E HZ Q => tb E σ HZ Q) := by
  unfold gCx at tk ⊢
  rw [hP, hw, hK, hmg, hba] at tk ⊢
  exact actG I L hf nf hfr hbind hun tk hr hbody hN hv hd hcd
/-- it is handed on: slot 0 holds it -/
def tPass (f c : Addr) (q : Str) (TT : (XK → Hp → VK → Prop) → Hp → VK → Prop) (tl : XK → Hp → VK → Prop) : TE := fun σ H Q => σ[0]? = some (some (.ref f)) ∧ H c = some (LamX.CodeO c q) ∧ TT tl H Q
/-- the def that hands it on: what it makes of what the other makes of it -/
def Hands (X : Cx) (Ng : List Str) (x : Str) (sg : Scope) (g : Addr) (cdg : Value) (bg : List Stmt) (a x2 q : Str) (TT2 TT : (XK → Hp → VK → Prop) → Hp → VK → Prop) : Prop :=
  ∀ (f c : Addr) (s : Shared) (H : Hp) (Q : VK) (tl : XK → Hp → VK → Prop),
    (∀ (p1 p2 p3 : Pos), PE (gCx X L2.CX0 L2.E0 Ng x sg g cdg s H).nox (.Call (.Name x2 p1) [.Name a p2] [] p3) (tPass f c q TT2 tl)) →
    H c = some (LamX.CodeO c q) → TT tl H Q →
    ∃ t, PSs (gCx X L2.CX0 L2.E0 Ng x sg g cdg s H).nox bg t ∧ t { nx := fun _ H' => Q .non H', rt := Q } (L2.start Ng [.ref f]) H
theorem pe_lam2 {X : Cx} {T : List (Addr × Str)} {TT TT2 : (XK → Hp → VK → Prop) → Hp → VK → Prop} {x a x2 a2 : Str} {g c P g2 : Addr} {k : Nat} {st st2 : Stmt} {fd fd2 : FuncData} {Ng Ng2 : List Str} {params : Arguments} {body : Expr} {scope : Scope} {t : XK → TE} {p lpos pos : Pos}
    (hg : Gl X x) (hm : X.mg x = some (.ref g)) (F : L2.Fun X.K x x st g fd) (hb : L2.Binds X.K fd [a] []) (Sg : FnScope Ng [a] (defScope st)) (hNg : Ng[0]? = some a) (hva : Vis (defScope st) a)
    (hg2 : (defScope st).names.lookup x2 = some .globalImplicit) (hm2 : X.mg x2 = some (.ref g2)) (F2 : L2.Fun X.K x2 x2 st2 g2 fd2) (hb2 : L2.Binds X.K fd2 [a2] []) (Sg2 : FnScope Ng2 [a2] (defScope st2)) (hNg2 : Ng2[0]? = some a2) (hva2 : Vis (defScope st2) a2)
    (hG2 : ∀ (Y : Cx) (cdv : Value), Y.K = X.K → Y.mg = X.mg → Gives Y Ng2 x2 (defScope st2) g2 cdv (defBody st2) a2 (X.env.qual ++ "<lambda>") (k + 1) TT2)
    (hG : ∀ cdv : Value, Hands X Ng x (defScope st) g cdv (defBody st) a x2 (X.env.qual ++ "<lambda>") TT2 TT)
    (TB : LamX.TabB X.base X.mg c P) (hcode : X.env.code = .ref c) (hmT : (P, X.env.qual ++ "<lambda>") ∈ T) (hu : ∀ p ∈ T, p.1 = P → p.2 = X.env.qual ++ "<lambda>") (hr : Room (k + 3) X.A) (L : LamX.LamS X.env.scope scope) (hdef : defaultsOf params X.env = ([], []))
    (hbind : ∀ (q : Str) (cl : List (Str × Addr)) (pm cv ctv : Value), bindArgs (kla_fn "<lambda>" q params body scope cl pm cv ctv) ⟨[], []⟩ = pure [])
    (hbody : ∀ (A : Around) (outer : List Env) (s : Shared) (H : Hp) (E : XK) (f c' : Addr), Room k (A.deeper (LamX.lamEnv X scope s.heap.objs.size f c')) → PE (lamC X A outer s H E scope f c') body (t E))
    (hdb : (x == ("__debug__" : Str)) = false := by decide) (hd : (a == ("__debug__" : Str)) = false := by decide) (hcd : (a == ("__classdict__" : Str)) = false := by decide)
    (hdb2 : (x2 == ("__debug__" : Str)) = false := by decide) (hd2 : (a2 == ("__debug__" : Str)) = false := by decide) (hcd2 : (a2 == ("__classdict__" : Str)) = false := by decide) :
    PE X (.Call (.Name x p) [.Lambda params body scope lpos] [] pos) (LamX.tLam T TT t) := by
  obtain ⟨oc, od, kV, doc, pm, an, cdv, ct, osl, rfl, lk, hcdv⟩ := F.ex
  obtain ⟨oc2, od2, kV2, doc2, pm2, an2, cdv2, ct2, osl2, rfl, lk2, hcdv2⟩ := F2.ex
  refine ⟨fun pins s σ H Q I h => ?_⟩
  obtain ⟨hT, h⟩ := h
  refine wpAny_Call_Name_kw (ld_glob I hg hm (callWith_K (h₀ := X.base) I.ok.mod.kin F.kp ?_ (by rfl) (by rfl)) hdb)
  show wpAny _ _ (spliced ((false, eval (.Lambda params body scope lpos) X.env) :: backTo pos (starEach [] X.env))) _ _ s
  refine Calls.spliced_cons (LamX.lam_make2 I TB hcode hmT hu hT hdef (L.has I.ok) fun f c2 pm2 ctv H1 s1 I1 eN T1 hf nf hfr hco => Calls.spliced_nil ⟨I1.kIn, ?_⟩)
  have rc : codeAny (model X.prog X.w) X.A (.call (.ref g) ⟨[.ref f], []⟩) (CR L2.CX0 X.stack X.prog X.w H1 s1 Q L2.E0) s1 := by
    refine LamX.run_ofS (N := Ng) (ps := [a]) (us := [.ref f]) (vs := [.ref f]) lk hcdv Sg hr I1.env0 (hb s1 [.ref f] I1.kIn rfl) (.cons rfl .nil) rfl fun hr2 => ?_
    have hp : ∀ (p1 p2 p3 : Pos), PE (gCx X L2.CX0 L2.E0 Ng x (defScope st) g cdv s1 H1).nox (.Call (.Name x2 p1) [.Name a p2] [] p3) (tPass f c2 (X.env.qual ++ "<lambda>") TT2 (fun E H' Q' => t E σ H' Q')) := by
      intro p1 p2 p3
      refine ⟨fun pinsY sY σY HY QY IY hy => ?_⟩
      obtain ⟨hs, hc, hTT⟩ := hy
      refine wpAny_Call_Name_kw (ld_glob IY (show Gl _ x2 from hg2) hm2 (callWith_K (h₀ := X.base) IY.ok.mod.kin F2.kp ?_ (by rfl) (by rfl)) hdb2)
      refine Calls.spliced_cons (thn ((pe_var (pos := p2) (i := 0) hNg hva hd hcd).run pinsY sY σY HY (fun v H1 => v = .ref f ∧ H1 = HY) IY ⟨.ref f, hs, rfl, rfl⟩) fun u s3 hu => Calls.spliced_nil ?_)
      obtain ⟨v, H3, I3, r3, ev, eH⟩ := hu
      subst ev eH
      have eu : u = Value.ref f := r3
      subst eu
      refine ⟨I3.kIn, ?_⟩
      have rc2 : codeAny (model X.prog X.w) (X.A.deeper (envOfC x (defScope st) s1.heap.objs.size g cdv)) (.call (.ref g2) ⟨[.ref f], []⟩) (CR L2.CX0 (envOfC x (defScope st) s1.heap.objs.size g cdv :: X.stack) X.prog X.w H3 s3 QY L2.E0) s3 := by
        refine LamX.run_ofS (N := Ng2) (ps := [a2]) (us := [.ref f]) (vs := [.ref f]) lk2 hcdv2 Sg2 hr2 I3.env0 (hb2 s3 [.ref f] I3.kIn rfl) (.cons rfl .nil) rfl fun hr3 => ?_
        have un3 : Un (frs X.stack) [] H1 H3 s1.heap s3.heap := I3.base
        have hun : ∀ (H' : Hp) (h' : Heap), Un (frs (gCx X L2.CX0 L2.E0 Ng x (defScope st) g cdv s1 H1).stack) [] H3 H' s3.heap h' → Un (frs X.stack) [] H1 H' s1.heap h' := fun H' h' u =>
          un_more (x := s1.heap.objs.size) (fs := frs X.stack) un3 (show Un (s1.heap.objs.size :: frs X.stack) [] H3 H' s3.heap h' from u) (fun o z => absurd (Heap.lt_size z) (Nat.lt_irrefl _))
        have hr3' : Room (k + 1) ((gCx X L2.CX0 L2.E0 Ng x (defScope st) g cdv s1 H1).A.deeper (envOfC x2 (defScope st2) s3.heap.objs.size g2 cdv2)) := hr3
        obtain ⟨t2, ht2, hq2⟩ := hG2 (gCx X L2.CX0 L2.E0 Ng x (defScope st) g cdv s1 H1) cdv2 rfl rfl f c2 s3 H3 QY (fun E H' Q' => t E σ H' Q') hr3' (fun W pn xe p1 p2 tk => actY (X := X) (Y := gCx X L2.CX0 L2.E0 Ng x (defScope st) g cdv s1 H1) (tb := t) (i := 0) (k := k) rfl rfl rfl rfl rfl I1 L hf nf hfr (hbind _ _ _ _ _) hun tk hr3' (fun A outer s H E hr4 => hbody A outer s H E f c2 hr4) hNg2 hva2 hd2 hcd2) hc hTT
        exact ⟨t2, ht2.nox, hq2⟩
      refine wpAny_call (codeAny_mono rc2 fun r s4 hq => ?_)
      cases r with
      | error e => exact (show False from hq).elim
      | ok fl =>
        cases fl with
        | ret u => exact I3.after hq
        | next => exact False.elim hq
        | brk => exact False.elim hq
        | cont => exact False.elim hq
    obtain ⟨t2, ht2, hq2⟩ := hG cdv f c2 s1 H1 Q (fun E H' Q' => t E σ H' Q') hp hco (h H1 eN T1)
    exact ⟨t2, ht2.nox, hq2⟩
  refine wpAny_call (codeAny_mono rc fun r s2 hq => ?_)
  cases r with
  | error e => exact (show False from hq).elim
  | ok fl =>
    cases fl with
    | ret u => exact I1.after hq
    | next => exact False.elim hq
    | brk => exact False.elim hq
    | cont => exact False.elim hq
/-! a lambda with one parameter that has a default, called without -/
structure LamD (N : List Str) (x : Str) (sc scope : Scope) : Prop where
  kind : scope.kind = .function
  co : scope.isCoroutine = false
  gen : scope.isGenerator = false
  own : ∀ y ∈ scope.names, y.2 ≠ .cell ∧ (y.2 = .local → y.1 ∉ N)
  free : ∀ y ∈ scope.names, y.2 = .free → sc.names.lookup y.1 = some .cell ∨ sc.names.lookup y.1 = some .free
  par : scope.names.lookup x = some .local
def lamDB (N : List Str) (x : Str) (sc scope : Scope) : Bool :=
  decide (scope.kind = .function) && !scope.isCoroutine && !scope.isGenerator && (scope.names.all fun y => !decide (y.2 = .cell) && (!decide (y.2 = .local) || !decide (y.1 ∈ N)) && (!decide (y.2 = .free) || decide (sc.names.lookup y.1 = some .cell) || decide (sc.names.lookup y.1 = some .free))) && decide (scope.names.lookup x = some .local)
theorem lamD_by {N : List Str} {x : Str} {sc scope : Scope} (h : lamDB N x sc scope = true) : LamD N x sc scope := by
  unfold lamDB at h
  simp only [Bool.and_eq_true, Bool.or_eq_true, Bool.not_eq_true', decide_eq_true_eq, decide_eq_false_iff_not, List.all_eq_true] at h
  obtain ⟨⟨⟨⟨h1, h2⟩, h3⟩, h4⟩, h5⟩ := h
  refine ⟨h1, h2, h3, fun y hy => ⟨(h4 y hy).1.1, fun e => ?_⟩, fun y hy e => ?_, h5⟩
  · rcases (h4 y hy).1.2 with z | z
    · exact absurd e z
    · exact z
  · rcases (h4 y hy).2 with (z | z) | z
    · exact absurd e z
    · exact .inl z
    · exact .inr z
theorem LamD.has {X : Cx} {x : Str} {scope : Scope} (L : LamD X.N x X.env.scope scope) (ok : X.Ok) : ∀ y ∈ scope.names, y.2 = .free → ∃ c, X.env.cells.lookup y.1 = some c := fun y hy e => by
  rcases L.free y hy e with k | k
  · exact ok.has _ (.inl k)
  · exact ok.has _ (.inr k)
section
variable {X : Cx} {pins : List (Addr × Obj)} {σ : L2.St} {H : Hp} {s : Shared}
/-- the lambda is made: the tuple of its default, then as without one -/
theorem lam_makeD {T : List (Addr × Str)} {c P : Addr} {n : Int} {e0 : Expr} {params : Arguments} {body : Expr} {scope : Scope} {pos : Pos} {E : Value → Shared → Prop} {Q : Value → Shared → Prop} (I : Inv X pins σ H s) (TB : LamX.TabB X.base X.mg c P) (hcode : X.env.code = .ref c)
    (hm : (P, X.env.qual ++ "<lambda>") ∈ T) (hu : ∀ p ∈ T, p.1 = P → p.2 = X.env.qual ++ "<lambda>") (hT : LamX.Tabs T H) (hd : params.defaults = [e0]) (hk0 : params.kw_defaults = []) (he : ∀ (pins : List (Addr × Obj)) (s : Shared) (Q : Value → Shared → Prop), Inv X pins σ H s → (∀ v s', Inv X pins σ H s' → L2.RelV (.int n) v → Q v s') → wpAny (model X.prog X.w) X.A (eval e0 X.env) Q E s) (hfree : ∀ y ∈ scope.names, y.2 = .free → ∃ c, X.env.cells.lookup y.1 = some c)
    (h : ∀ (f c' p : Addr) (doc pm ctv : Value) (H1 : Hp) (s' : Shared), Inv X pins σ H1 s' → LamX.ExtN H H1 → LamX.Tabs T H1 → H1 p = some (.tup [.int n]) →
      s'.heap.get? f = some (PySem.W.kdv_obj "<lambda>" (X.env.qual ++ "<lambda>") params (.expr body) scope (cloFrom X.env.cells scope.names []) (.ref p) doc pm c' ctv) → H1 f = none → f ∉ frs X.stack → H1 c' = some (LamX.CodeO c' (X.env.qual ++ "<lambda>")) → Q (.ref f) s') :
    wpAny (model X.prog X.w) X.A (eval (.Lambda params body scope pos) X.env) Q E s := by
  refine PySem.W.kdv_lam (by rw [hd]; rfl) hk0 ?_
  rw [hd]
  refine PySem.W.kdv_all1 (he pins s _ I fun v s0 I0 rv => PySem.W.kdv_all0 ?_)
  rw [makeFunction_eq]
  simp only [List.zip_nil_right, List.filterMap_nil, List.isEmpty_nil, if_true, pure_bind, List.isEmpty_cons, Bool.false_eq_true, if_false]
  refine wpAny_bind (wpAny_newTextTuple ?_)
  have np : H s0.heap.objs.size = none := I0.hok.fresh (Nat.le_refl _)
  have I1 : Inv X pins σ (upd H s0.heap.objs.size (.tup [.int n])) { s0 with heap := s0.heap.push (PySem.W.kdv_tup [v]) } :=
    I0.laid (t' := s0.toks) (fun b u e => Heap.get?_push_of_some _ e) (Nat.le_refl _) ⟨by show 1 ≤ sizeLine; decide, [v], .cons rv .nil, ⟨_, Heap.get?_push_size _ rfl, rfl, _, rfl⟩⟩
  have eN : LamX.ExtN H (upd H s0.heap.objs.size (.tup [.int n])) := fun b o e _ => by rw [upd_ne (ne_of_none e np)]; exact e
  have hp1 : (upd H s0.heap.objs.size (.tup [.int n])) s0.heap.objs.size = some (.tup [.int n]) := upd_same
  have hT1 : LamX.Tabs T (upd H s0.heap.objs.size (.tup [.int n])) := hT.ext fun b o e => by rw [upd_ne (ne_of_none e np)]; exact e
  generalize s0.heap.objs.size = p at *
  generalize upd H p (.tup [.int n]) = H1 at *
  generalize ({ s0 with heap := s0.heap.push (PySem.W.kdv_tup [v]) } : Shared) = s1 at *
  obtain ⟨ps, hP, ht, ha⟩ := hT1 _ hm
  have bP : s1.heap.BuiltinsAt X.mg P := TB.bm.keeps I1.bk
  have hP' : s1.heap.get? P = some { cls := .none, data := .fields ps } := I1.hok P _ hP
  have nofr : ∀ f, s1.heap.objs.size ≤ f → f ∉ frs X.stack := fun f hf z => by
    rcases List.mem_cons.mp (I1.stkSub _ z) with e | e
    · have h1 := I1.lt
      rw [← e] at h1
      exact Nat.lt_irrefl _ (Nat.lt_of_lt_of_le h1 hf)
    · exact I1.nofs hf e
  cases hc : codeAmong pos ps.toList with
  | none =>
    refine PySem.W.kdv_makeTail (mg := X.mg) (c := c) (P := P) (ps := ps) (closure_ok hfree) I1.ok.glob (I1.mod.glob.keeps I1.bk) hcode (TB.code.keeps I1.bk) hP' ht hc TB.gP bP fun c' ctv doc h' tk hx hge hlt hrec htb => ?_
    obtain ⟨c2, oc, vs, t, e2, hoc, hd, hv⟩ := hrec
    cases e2
    have hsz : s1.heap.objs.size ≤ h'.objs.size := Nat.le_trans hge (Nat.le_of_lt hlt)
    have nC : H1 c' = none := I1.hok.fresh hge
    have I2 := LamX.inv_table (t' := tk) (more := #[rawInt pos.line, rawInt pos.col, .ref c']) (h' := h'.push (PySem.W.kdv_obj "<lambda>" (X.env.qual ++ "<lambda>") params (.expr body) scope (cloFrom X.env.cells scope.names []) (.ref p) doc ((X.mg "__name__").getD .none) c' ctv)) I1 hP
      (fun b o hb e => Heap.get?_push_of_some _ (hx b o hb e)) (Heap.get?_push_of_some _ htb) hge ⟨oc, vs, t, Heap.get?_push_of_some _ hoc, hd, hv⟩
    have hE : LamX.ExtN H1 (upd (upd H1 P (.tbl (ps ++ #[rawInt pos.line, rawInt pos.col, .ref c']))) c' (LamX.CodeO c' (X.env.qual ++ "<lambda>"))) := fun b o e n => by
      rw [upd_ne (ne_of_none e nC), upd_ne (fun z => n ps (Option.some.inj (e.symm.trans (by rw [z]; exact hP))))]
      exact e
    have eL : (ps ++ #[rawInt pos.line, rawInt pos.col, .ref c']).toList = ps.toList ++ [rawInt pos.line, rawInt pos.col, .ref c'] := by simp
    refine h h'.objs.size c' p doc ((X.mg "__name__").getD .none) ctv _ _ I2 (eN.trans hE) (fun q hq => ?_) (hE _ _ hp1 fun ps z => by cases z) (Heap.get?_push_size _ rfl) ?_ (nofr _ hsz) upd_same
    · by_cases hb : q.1 = P
      · rw [hu q hq hb, hb]
        refine ⟨_, by rw [upd_ne (ne_of_none hP nC), upd_same], by rw [eL]; exact PySem.TriplesOk_snoc _ _ _ _ ht, fun p' cv hcv => ?_⟩
        rw [eL] at hcv
        rcases LamX.among_app _ ht hcv with z | z
        · obtain ⟨c0, e1, e2⟩ := ha p' cv z
          exact ⟨c0, e1, hE _ _ e2 LamX.codeO_ne⟩
        · exact ⟨c', z, upd_same⟩
      · obtain ⟨ps', a1, a2, a3⟩ := hT1 q hq
        refine ⟨ps', by rw [upd_ne (ne_of_none a1 nC), upd_ne hb]; exact a1, a2, fun p' cv hcv => ?_⟩
        obtain ⟨c0, e1, e2⟩ := a3 p' cv hcv
        exact ⟨c0, e1, hE _ _ e2 LamX.codeO_ne⟩
    · have n1 : h'.objs.size ≠ c' := Nat.ne_of_gt hlt
      have n2 : h'.objs.size ≠ P := Nat.ne_of_gt (Nat.lt_of_lt_of_le (Heap.lt_size hP') hsz)
      rw [upd_ne n1, upd_ne n2]
      exact I1.hok.fresh hsz
  | some cv =>
    obtain ⟨c', e, hco⟩ := ha pos cv hc
    subst e
    refine PySem.W.kdv_makeTailHit (mg := X.mg) (c := c) (P := P) (ps := ps) (closure_ok hfree) I1.ok.glob (I1.mod.glob.keeps I1.bk) hcode (TB.code.keeps I1.bk) hP' ht hc bP fun ctv doc h' tk hx hsz => ?_
    have I2 : Inv X pins σ H1 { s1 with heap := h'.push (PySem.W.kdv_obj "<lambda>" (X.env.qual ++ "<lambda>") params (.expr body) scope (cloFrom X.env.cells scope.names []) (.ref p) doc ((X.mg "__name__").getD .none) c' ctv), toks := tk } := I1.kept fun b o e => Heap.get?_push_of_some _ (hx b o e)
    exact h h'.objs.size c' p doc ((X.mg "__name__").getD .none) ctv H1 _ I2 eN hT1 hp1 (Heap.get?_push_size _ rfl) (I1.hok.fresh hsz) (nofr _ hsz) hco
end
section
variable {X : Cx} {pins : List (Addr × Obj)} {σ : L2.St} {H HZ : Hp} {s s1 : Shared}
theorem lam_startD {A : Around} {outer : List Env} {E : XK} {x : Str} {u : Value} {scope : Scope} {f c' : Addr} {h₁ : Heap} {tk : Nat} (I : Inv X pins σ H s) (L : LamD X.N x X.env.scope scope) (e0 : Env0 X.prog X.w X.K X.mg X.base A outer s1 HZ) (hd : A.handled = none)
    (un : Un (frs X.stack) [] H HZ s.heap s1.heap) (hns : h₁.Ns s1.heap.objs.size fun y => ([(x, u)] : List (Str × Value)).reverse.lookup y) (kp : ∀ b o, s1.heap.get? b = some o → h₁.get? b = some o) :
    Inv (LamX.lamCx X A outer s1 HZ E scope f c') [] σ HZ { s1 with heap := h₁, toks := tk } := by
  have hfree := L.has I.ok
  have cm : ∀ {y c}, (cloFrom X.env.cells scope.names []).lookup y = some c → X.env.cells.lookup y = some c := fun {y c} e => by
    rcases cloFrom_mem (PySem.mem_of_lookup e) with hm | ⟨h1, h2⟩
    · cases hm
    · obtain ⟨c1, hc⟩ := hfree _ h1 rfl
      have hc : X.env.cells.lookup y = some c1 := hc
      have e2 : c = c1 := by
        rw [h2, hc] <;> rfl
      rw [e2]
      exact hc
  have look : ∀ {y}, scope.names.lookup y = some .free → ∃ c, (cloFrom X.env.cells scope.names []).lookup y = some c := fun {y} hl => by
    have hy : (y, NameKind.free) ∈ scope.names := PySem.mem_of_lookup hl
    exact mem_lookup (cloFrom_has (cells := X.env.cells) (acc := []) hy)
  have cellK : ∀ {c : Addr} {v : Option Value}, H c = none → s.heap.IsCell c v → h₁.IsCell c v := fun {c v} n ⟨o, ho, hd⟩ => by
    obtain ⟨sl, q⟩ := un.any ho n (by simp)
    exact ⟨_, kp _ _ q, hd⟩
  have noA : ∀ b : Addr, b ∉ (LamX.lamCx X A outer s1 HZ E scope f c').ex := fun b z => absurd (show b ∈ ([] : List Addr) from z) (by simp)
  refine ⟨⟨e0.mod, L.kind, rfl, rfl, Nat.le_refl _, fun y z c e1 e2 => I.ok.inj y z c (cm e1) (cm e2), fun y hy => ?_, fun y c z _ => ?_, fun _ => hd, Around.frames_deeper e0.frames, .inr ⟨rfl, rfl⟩, fun b z => absurd z (noA b), e0.bs, e0.bsz, fun b _ _ => noA b,
      fun b z => absurd z (noA b), e0.funs, e0.frf⟩,
    rfl, e0.bare, Un.kept kp, ⟨_, hns, fun i y v e1 e2 e3 => ?_⟩, fun y c e => ?_, e0.hok.fresh (Nat.le_refl _), fun y c e => ?_, fun q hq => absurd (show q ∈ ([] : List (Addr × Obj)) ++ [] from hq) (by simp), e0.hok.kept kp, I.len⟩
  · have hy : scope.names.lookup y = some .cell ∨ scope.names.lookup y = some .free := hy
    rcases hy with hy | hy
    · exact absurd rfl (L.own _ (PySem.mem_of_lookup hy)).1
    · exact look hy
  · have z : false = true := z
    cases z
  · have e3 : Vis scope y := e3
    have e1 : X.N[i]? = some y := e1
    rcases e3 with k | k | k
    · exact absurd (List.mem_of_getElem? e1) ((L.own _ (PySem.mem_of_lookup k)).2 rfl)
    · exact absurd rfl (L.own _ (PySem.mem_of_lookup k)).1
    · obtain ⟨m, hn, hl⟩ := I.loc
      have hvis : Vis X.env.scope y := (L.free _ (PySem.mem_of_lookup k) rfl).elim (fun k => .inr (.inl k)) (fun k => .inr (.inr k))
      obtain ⟨w', r, q⟩ := hl i y v e1 e2 hvis
      obtain ⟨c2, h2⟩ := look k
      refine ⟨w', r, .inr ⟨.inr k, c2, h2, ?_⟩⟩
      have c1 := cm h2
      rcases q with ⟨k', _⟩ | ⟨_, c3, e', z⟩
      · have k' : X.env.scope.names.lookup y = some .local := k'
        rcases L.free _ (PySem.mem_of_lookup k) rfl with k2 | k2 <;> rw [show X.env.scope.names.lookup y = _ from k2] at k' <;> cases k'
      · rw [c1] at e'
        cases e'
        exact cellK (I.freeC y _ c1) z
  · obtain ⟨w', z⟩ := I.cell y c (cm e)
    exact ⟨w', cellK (I.freeC y c (cm e)) z⟩
  · obtain ⟨v, o, ho, hd⟩ := I.cell y c (cm e)
    exact un.free c o ho (I.freeC y c (cm e)) (by simp)
/-- its one parameter takes the default -/
def DBind (params : Arguments) (body : Expr) (scope : Scope) (x : Str) : Prop := ∀ (q : Str) (cl : List (Str × Addr)) (p : Addr) (doc pm cv ctv : Value), ∃ k : Option (Array Value) → Sem (List (Str × Value)),
  bindArgs (PySem.W.kdv_fn "<lambda>" q params (.expr body) scope cl (.ref p) doc pm cv ctv) ⟨[], []⟩ = seqItems? (.ref p) >>= k ∧ ∀ u : Value, k (some #[u]) = pure [(x, u)]
theorem actDG {CXg : CXT} {Eg : XK} {Ng : List Str} {qg : Str} {sg : Scope} {g f c p : Addr} {n : Int} {x : Str} {cdg doc pm ctv : Value} {params : Arguments} {body : Expr} {scope : Scope} {k i : Nat} {a : Str} {pn : List (Addr × Obj)} {xe : Value → Shared → Prop} {W : WX} {tb : XK → TE} {p1 p2 : Pos} {A0 : Around} {outer0 : List Env} {s2 : Shared} {H2 : Hp}
    (I : Inv X pins σ H s) (L : LamD X.N x X.env.scope scope) (hp : H p = some (.tup [.int n])) (hf : s.heap.get? f = some (PySem.W.kdv_obj "<lambda>" (X.env.qual ++ "<lambda>") params (.expr body) scope (cloFrom X.env.cells scope.names []) (.ref p) doc pm c ctv)) (nf : H f = none) (hfr : f ∉ frs X.stack)
    (hbind : DBind params body scope x)
    (hun : ∀ (H' : Hp) (h' : Heap), Un (frs outer0) [] H2 H' s2.heap h' → Un (frs X.stack) [] H H' s.heap h')
    (tk : L2N.Takes ((cxOf CXg X.prog X.w X.K X.mg X.base Ng qg sg g cdg A0 outer0 s2 H2 Eg).tr pn xe) W) (hr : Room (k + 1) (A0.deeper (envOfC qg sg s2.heap.objs.size g cdg)))
    (hbody : ∀ (A : Around) (outer : List Env) (s : Shared) (H : Hp) (E : XK), Room k (A.deeper (LamX.lamEnv X scope s.heap.objs.size f c)) → PE (lamC X A outer s H E scope f c) body (tb E))
    (hN : Ng[i]? = some a) (hv : Vis sg a) (hd : (a == ("__debug__" : Str)) = false) (hcd : (a == ("__classdict__" : Str)) = false) :
    PE ((cxOf CXg X.prog X.w X.K X.mg X.base Ng qg sg g cdg A0 outer0 s2 H2 Eg).tr pn xe) (.Call (.Name a p1) [] [] p2) (tAct W f c i (X.env.qual ++ "<lambda>") fun E HZ Q => tb E σ HZ Q) := by
  refine ⟨fun pinsZ sZ σZ HZ Q IZ h => ?_⟩
  obtain ⟨hs, hc, E, Q0, hE, hQ, ht⟩ := h
  refine wpAny_Call_Name_kw (thn ((pe_var (pos := p1) (i := i) hN hv hd hcd).run pinsZ sZ σZ HZ (fun v H1 => v = .ref f ∧ H1 = HZ) IZ ⟨.ref f, hs, rfl, rfl⟩) fun u s1 hu => ?_)
  obtain ⟨v, H1, I1, r1, ev, eH⟩ := hu
  subst ev eH
  have eu : u = Value.ref f := r1
  subst eu
  have un : Un (frs X.stack) [] H H1 s.heap s1.heap := hun _ _ I1.base
  have fo : s1.heap.get? f = _ := un.keep f _ hf nf hfr (fun z => nomatch (show f ∈ ([] : List Addr) from z))
  have hp1 : H1 p = some (.tup [.int n]) := un.tups p _ hp
  obtain ⟨_, us, rus, op, hop, _, nn, hop2⟩ := I1.hok p _ hp1
  obtain ⟨k0, hb1, hb2⟩ := hbind (X.env.qual ++ "<lambda>") (cloFrom X.env.cells scope.names []) p doc pm (.ref c) ctv
  cases rus with
  | cons ru rn =>
  cases rn with
  | nil =>
  rename_i u0
  refine callWith_F0 ⟨_, _, _, _, fo⟩ ?_
  obtain ⟨⟨oc, vs, t, hoc, hdc, hvc⟩, _, _⟩ := I1.hok c _ hc
  have rc : codeAny (model X.prog X.w) (A0.deeper (envOfC qg sg s2.heap.objs.size g cdg)) (.call (.ref f) ⟨[], []⟩) (CR (L2N.CX X.prog X.w) (envOfC qg sg s2.heap.objs.size g cdg :: outer0) X.prog X.w H1 s1 Q E) s1 := by
    refine kla_callFunE hr.depth fo rfl L.co L.gen rfl ⟨c, oc, vs, t, rfl, hoc, hdc, hvc⟩ ?_
    refine (BindsTo.of_defaults (binds := [(x, u0)]) (k := k0) rfl hop hop2 hb1 (hb2 u0)) _ _ _ _ ?_
    refine wpAny_newFunctionEnv (fun y hy => (L.own y hy).1) (fun y hy => by rw [List.mem_singleton.mp hy]; exact L.par) (fun h₁ hns hsb => ⟨I1.nolimit.fresh _ hsb, ?_⟩) L.kind
    show codeAny _ _ (.expr body (LamX.lamEnv X scope s1.heap.objs.size f c)) _ _
    have kp : ∀ b o, s1.heap.get? b = some o → h₁.get? b = some o := fun b o e => hsb.extBut b o (Nat.ne_of_lt (Heap.lt_size e)) (Heap.get?_push_of_some _ e)
    have J0 := lam_startD (A := A0.deeper (envOfC qg sg s2.heap.objs.size g cdg)) (outer := envOfC qg sg s2.heap.objs.size g cdg :: outer0) (E := E) (f := f) (c' := c) (tk := s1.toks + ([(x, u0)] : List (Str × Value)).length) I L I1.env0 hr.hd un hns kp
    have J : Inv (lamC X (A0.deeper (envOfC qg sg s2.heap.objs.size g cdg)) (envOfC qg sg s2.heap.objs.size g cdg :: outer0) s1 H1 E scope f c) [] σ H1 _ := J0.wish _
    refine kla_codeExpr (wpAny_mono ((hbody _ _ s1 H1 E (hr.deeper _)).run [] _ _ H1 Q0 J ht) (fun v s' hq => ?_) fun e s' hq => hq)
    obtain ⟨w', H', J', rv, q⟩ := hq
    exact ⟨w', H', J'.os, J'.bare, J'.base, J'.hok, rv, hQ _ _ q⟩
  refine wpAny_call (codeAny_mono rc fun r s' hq => ?_)
  cases r with
  | error e => exact tk e s' (L2N.XE.of_call I1 hE hq)
  | ok fl =>
    cases fl with
    | ret u => exact I1.after hq
    | next => exact False.elim hq
    | brk => exact False.elim hq
    | cont => exact False.elim hq
end
theorem actDY {X Y : Cx} {pins : List (Addr × Obj)} {σ : L2.St} {H : Hp} {s : Shared} {CXg : CXT} {Eg : XK} {Ng : List Str} {qg : Str} {sg : Scope} {g f c p : Addr} {n : Int} {x : Str} {cdg doc pm ctv : Value} {params : Arguments} {body : Expr} {scope : Scope} {k i : Nat} {a : Str} {pn : List (Addr × Obj)} {xe : Value → Shared → Prop} {W : WX} {tb : XK → TE} {p1 p2 : Pos} {s2 : Shared} {H2 : Hp}
    (hP : Y.prog = X.prog) (hw : Y.w = X.w) (hK : Y.K = X.K) (hmg : Y.mg = X.mg) (hba : Y.base = X.base)
    (I : Inv X pins σ H s) (L : LamD X.N x X.env.scope scope) (hp : H p = some (.tup [.int n])) (hf : s.heap.get? f = some (PySem.W.kdv_obj "<lambda>" (X.env.qual ++ "<lambda>") params (.expr body) scope (cloFrom X.env.cells scope.names []) (.ref p) doc pm c ctv)) (nf : H f = none) (hfr : f ∉ frs X.stack)
    (hbind : DBind params body scope x)
    (hun : ∀ (H' : Hp) (h' : Heap), Un (frs Y.stack) [] H2 H' s2.heap h' → Un (frs X.stack) [] H H' s.heap h')
    (tk : L2N.Takes ((gCx Y CXg Eg Ng qg sg g cdg s2 H2).tr pn xe) W) (hr : Room (k + 1) (Y.A.deeper (envOfC qg sg s2.heap.objs.size g cdg)))
    (hbody : ∀ (A : Around) (outer : List Env) (s : Shared) (H : Hp) (E : XK), Room k (A.deeper (LamX.lamEnv X scope s.heap.objs.size f c)) → PE (lamC X A outer s H E scope f c) body (tb E))
    (hN : Ng[i]? = some a) (hv : Vis sg a) (hd : (a == ("__debug__" : Str)) = false) (hcd : (a == ("__classdict__" : Str)) = false) :
    PE ((gCx Y CXg Eg Ng qg sg g cdg s2 H2).tr pn xe) (.Call (.Name a p1) [] [] p2) (tAct W f c i (X.env.qual ++ "<lambda>") fun E HZ Q => tb E σ HZ Q) := by
  unfold gCx at tk ⊢
  rw [hP, hw, hK, hmg, hba] at tk ⊢
  exact actDG I L hp hf nf hfr hbind hun tk hr hbody hN hv hd hcd
theorem pe_lamD {X : Cx} {T : List (Addr × Str)} {TT : (XK → Hp → VK → Prop) → Hp → VK → Prop} {x a y : Str} {n : Int} {g c P : Addr} {k : Nat} {st : Stmt} {fd : FuncData} {Ng : List Str} {params : Arguments} {body : Expr} {scope : Scope} {t : XK → TE} {p lpos pos p0 : Pos} {j0 : Nat}
    (hg : Gl X x) (hm : X.mg x = some (.ref g)) (F : L2.Fun X.K x x st g fd) (hb : L2.Binds X.K fd [a] []) (Sg : FnScope Ng [a] (defScope st)) (hNg : Ng[0]? = some a) (hva : Vis (defScope st) a)
    (hG : ∀ cdv : Value, Gives X Ng x (defScope st) g cdv (defBody st) a (X.env.qual ++ "<lambda>") (k + 1) TT)
    (TB : LamX.TabB X.base X.mg c P) (hcode : X.env.code = .ref c) (hmT : (P, X.env.qual ++ "<lambda>") ∈ T) (hu : ∀ p ∈ T, p.1 = P → p.2 = X.env.qual ++ "<lambda>") (hr : Room (k + 2) X.A) (L : LamD X.N y X.env.scope scope) (hdef : params.defaults = [.Constant (.int n) j0 p0]) (hkw : params.kw_defaults = [])
    (hbind : DBind params body scope y)
    (hbody : ∀ (A : Around) (outer : List Env) (s : Shared) (H : Hp) (E : XK) (f c' : Addr), Room k (A.deeper (LamX.lamEnv X scope s.heap.objs.size f c')) → PE (lamC X A outer s H E scope f c') body (t E))
    (hdb : (x == ("__debug__" : Str)) = false := by decide) (hd : (a == ("__debug__" : Str)) = false := by decide) (hcd : (a == ("__classdict__" : Str)) = false := by decide) :
    PE X (.Call (.Name x p) [.Lambda params body scope lpos] [] pos) (LamX.tLam T TT t) := by
  obtain ⟨oc, od, kV, doc, pm, an, cdv, ct, osl, rfl, lk, hcg⟩ := F.ex
  refine ⟨fun pins s σ H Q I h => ?_⟩
  obtain ⟨hT, h⟩ := h
  refine wpAny_Call_Name_kw (ld_glob I hg hm (callWith_K (h₀ := X.base) I.ok.mod.kin F.kp ?_ (by rfl) (by rfl)) hdb)
  show wpAny _ _ (spliced ((false, eval (.Lambda params body scope lpos) X.env) :: backTo pos (starEach [] X.env))) _ _ s
  refine Calls.spliced_cons (lam_makeD (n := n) I TB hcode hmT hu hT hdef hkw (fun pins s Q I q => thn (pe_int.run pins s σ H (fun v H' => v = .int n ∧ H' = H) I ⟨rfl, rfl⟩) fun v s' ⟨w, H', I', rv, e1, e2⟩ => by subst e1 e2; exact q v s' I' rv) (L.has I.ok) fun f c2 pp doc2 pm2 ctv H1 s1 I1 eN T1 hpp hf nf hfr hco => Calls.spliced_nil ⟨I1.kIn, ?_⟩)
  have rc : codeAny (model X.prog X.w) X.A (.call (.ref g) ⟨[.ref f], []⟩) (CR L2.CX0 X.stack X.prog X.w H1 s1 Q L2.E0) s1 := by
    refine LamX.run_ofS (N := Ng) (ps := [a]) (us := [.ref f]) (vs := [.ref f]) lk hcg Sg hr I1.env0 (hb s1 [.ref f] I1.kIn rfl) (.cons rfl .nil) rfl fun hr2 => ?_
    obtain ⟨t2, ht2, hq2⟩ := hG cdv f c2 s1 H1 Q (fun E H' Q' => t E σ H' Q') hr2 (fun W pn xe p1 p2 tk => actDG (i := 0) I1 L hpp hf nf hfr hbind (fun H' h' u => u) tk hr2 (fun A outer s H E hr3 => hbody A outer s H E f c2 hr3) hNg hva hd hcd) hco (h H1 eN T1)
    exact ⟨t2, ht2.nox, hq2⟩
  refine wpAny_call (codeAny_mono rc fun r s2 hq => ?_)
  cases r with
  | error e => exact (show False from hq).elim
  | ok fl =>
    cases fl with
    | ret u => exact I1.after hq
    | next => exact False.elim hq
    | brk => exact False.elim hq
    | cont => exact False.elim hq
theorem pe_lamD2 {X : Cx} {T : List (Addr × Str)} {TT TT2 : (XK → Hp → VK → Prop) → Hp → VK → Prop} {x a x2 a2 y : Str} {n : Int} {g c P g2 : Addr} {k : Nat} {st st2 : Stmt} {fd fd2 : FuncData} {Ng Ng2 : List Str} {params : Arguments} {body : Expr} {scope : Scope} {t : XK → TE} {p lpos pos p0 : Pos} {j0 : Nat}
    (hg : Gl X x) (hm : X.mg x = some (.ref g)) (F : L2.Fun X.K x x st g fd) (hb : L2.Binds X.K fd [a] []) (Sg : FnScope Ng [a] (defScope st)) (hNg : Ng[0]? = some a) (hva : Vis (defScope st) a)
    (hg2 : (defScope st).names.lookup x2 = some .globalImplicit) (hm2 : X.mg x2 = some (.ref g2)) (F2 : L2.Fun X.K x2 x2 st2 g2 fd2) (hb2 : L2.Binds X.K fd2 [a2] []) (Sg2 : FnScope Ng2 [a2] (defScope st2)) (hNg2 : Ng2[0]? = some a2) (hva2 : Vis (defScope st2) a2)
    (hG2 : ∀ (Y : Cx) (cdv : Value), Y.K = X.K → Y.mg = X.mg → Gives Y Ng2 x2 (defScope st2) g2 cdv (defBody st2) a2 (X.env.qual ++ "<lambda>") (k + 1) TT2)
    (hG : ∀ cdv : Value, Hands X Ng x (defScope st) g cdv (defBody st) a x2 (X.env.qual ++ "<lambda>") TT2 TT)
    (TB : LamX.TabB X.base X.mg c P) (hcode : X.env.code = .ref c) (hmT : (P, X.env.qual ++ "<lambda>") ∈ T) (hu : ∀ p ∈ T, p.1 = P → p.2 = X.env.qual ++ "<lambda>") (hr : Room (k + 3) X.A) (L : LamD X.N y X.env.scope scope) (hdef : params.defaults = [.Constant (.int n) j0 p0]) (hkw : params.kw_defaults = [])
    (hbind : DBind params body scope y)
    (hbody : ∀ (A : Around) (outer : List Env) (s : Shared) (H : Hp) (E : XK) (f c' : Addr), Room k (A.deeper (LamX.lamEnv X scope s.heap.objs.size f c')) → PE (lamC X A outer s H E scope f c') body (t E))
    (hdb : (x == ("__debug__" : Str)) = false := by decide) (hd : (a == ("__debug__" : Str)) = false := by decide) (hcd : (a == ("__classdict__" : Str)) = false := by decide)
    (hdb2 : (x2 == ("__debug__" : Str)) = false := by decide) (hd2 : (a2 == ("__debug__" : Str)) = false := by decide) (hcd2 : (a2 == ("__classdict__" : Str)) = false := by decide) :
    PE X (.Call (.Name x p) [.Lambda params body scope lpos] [] pos) (LamX.tLam T TT t) := by
  obtain ⟨oc, od, kV, doc, pm, an, cdv, ct, osl, rfl, lk, hcdv⟩ := F.ex
  obtain ⟨oc2, od2, kV2, doc2, pm2, an2, cdv2, ct2, osl2, rfl, lk2, hcdv2⟩ := F2.ex
  refine ⟨fun pins s σ H Q I h => ?_⟩
  obtain ⟨hT, h⟩ := h
  refine wpAny_Call_Name_kw (ld_glob I hg hm (callWith_K (h₀ := X.base) I.ok.mod.kin F.kp ?_ (by rfl) (by rfl)) hdb)
  show wpAny _ _ (spliced ((false, eval (.Lambda params body scope lpos) X.env) :: backTo pos (starEach [] X.env))) _ _ s
  refine Calls.spliced_cons (lam_makeD (n := n) I TB hcode hmT hu hT hdef hkw (fun pins s Q I q => thn (pe_int.run pins s σ H (fun v H' => v = .int n ∧ H' = H) I ⟨rfl, rfl⟩) fun v s' ⟨w, H', I', rv, e1, e2⟩ => by subst e1 e2; exact q v s' I' rv) (L.has I.ok) fun f c2 pp doc2 pm2 ctv H1 s1 I1 eN T1 hpp hf nf hfr hco => Calls.spliced_nil ⟨I1.kIn, ?_⟩)
  have rc : codeAny (model X.prog X.w) X.A (.call (.ref g) ⟨[.ref f], []⟩) (CR L2.CX0 X.stack X.prog X.w H1 s1 Q L2.E0) s1 := by
    refine LamX.run_ofS (N := Ng) (ps := [a]) (us := [.ref f]) (vs := [.ref f]) lk hcdv Sg hr I1.env0 (hb s1 [.ref f] I1.kIn rfl) (.cons rfl .nil) rfl fun hr2 => ?_
    have hp : ∀ (p1 p2 p3 : Pos), PE (gCx X L2.CX0 L2.E0 Ng x (defScope st) g cdv s1 H1).nox (.Call (.Name x2 p1) [.Name a p2] [] p3) (tPass f c2 (X.env.qual ++ "<lambda>") TT2 (fun E H' Q' => t E σ H' Q')) := by
      intro p1 p2 p3
      refine ⟨fun pinsY sY σY HY QY IY hy => ?_⟩
      obtain ⟨hs, hc, hTT⟩ := hy
      refine wpAny_Call_Name_kw (ld_glob IY (show Gl _ x2 from hg2) hm2 (callWith_K (h₀ := X.base) IY.ok.mod.kin F2.kp ?_ (by rfl) (by rfl)) hdb2)
      refine Calls.spliced_cons (thn ((pe_var (pos := p2) (i := 0) hNg hva hd hcd).run pinsY sY σY HY (fun v H1 => v = .ref f ∧ H1 = HY) IY ⟨.ref f, hs, rfl, rfl⟩) fun u s3 hu => Calls.spliced_nil ?_)
      obtain ⟨v, H3, I3, r3, ev, eH⟩ := hu
      subst ev eH
      have eu : u = Value.ref f := r3
      subst eu
      refine ⟨I3.kIn, ?_⟩
      have rc2 : codeAny (model X.prog X.w) (X.A.deeper (envOfC x (defScope st) s1.heap.objs.size g cdv)) (.call (.ref g2) ⟨[.ref f], []⟩) (CR L2.CX0 (envOfC x (defScope st) s1.heap.objs.size g cdv :: X.stack) X.prog X.w H3 s3 QY L2.E0) s3 := by
        refine LamX.run_ofS (N := Ng2) (ps := [a2]) (us := [.ref f]) (vs := [.ref f]) lk2 hcdv2 Sg2 hr2 I3.env0 (hb2 s3 [.ref f] I3.kIn rfl) (.cons rfl .nil) rfl fun hr3 => ?_
        have un3 : Un (frs X.stack) [] H1 H3 s1.heap s3.heap := I3.base
        have hun : ∀ (H' : Hp) (h' : Heap), Un (frs (gCx X L2.CX0 L2.E0 Ng x (defScope st) g cdv s1 H1).stack) [] H3 H' s3.heap h' → Un (frs X.stack) [] H1 H' s1.heap h' := fun H' h' u =>
          un_more (x := s1.heap.objs.size) (fs := frs X.stack) un3 (show Un (s1.heap.objs.size :: frs X.stack) [] H3 H' s3.heap h' from u) (fun o z => absurd (Heap.lt_size z) (Nat.lt_irrefl _))
        have hr3' : Room (k + 1) ((gCx X L2.CX0 L2.E0 Ng x (defScope st) g cdv s1 H1).A.deeper (envOfC x2 (defScope st2) s3.heap.objs.size g2 cdv2)) := hr3
        obtain ⟨t2, ht2, hq2⟩ := hG2 (gCx X L2.CX0 L2.E0 Ng x (defScope st) g cdv s1 H1) cdv2 rfl rfl f c2 s3 H3 QY (fun E H' Q' => t E σ H' Q') hr3' (fun W pn xe p1 p2 tk => actDY (X := X) (Y := gCx X L2.CX0 L2.E0 Ng x (defScope st) g cdv s1 H1) (tb := t) (i := 0) (k := k) rfl rfl rfl rfl rfl I1 L hpp hf nf hfr hbind hun tk hr3' (fun A outer s H E hr4 => hbody A outer s H E f c2 hr4) hNg2 hva2 hd2 hcd2) hc hTT
        exact ⟨t2, ht2.nox, hq2⟩
      refine wpAny_call (codeAny_mono rc2 fun r s4 hq => ?_)
      cases r with
      | error e => exact (show False from hq).elim
      | ok fl =>
        cases fl with
        | ret u => exact I3.after hq
        | next => exact False.elim hq
        | brk => exact False.elim hq
        | cont => exact False.elim hq
    obtain ⟨t2, ht2, hq2⟩ := hG cdv f c2 s1 H1 Q (fun E H' Q' => t E σ H' Q') hp hco (h H1 eN T1)
    exact ⟨t2, ht2.nox, hq2⟩
  refine wpAny_call (codeAny_mono rc fun r s2 hq => ?_)
  cases r with
  | error e => exact (show False from hq).elim
  | ok fl =>
    cases fl with
    | ret u => exact I1.after hq
    | next => exact False.elim hq
    | brk => exact False.elim hq
    | cont => exact False.elim hq
end LmN

/-! own: lambdas that are kept in a list and called later, in a comprehension too -/
namespace LmS
open PySem PySem.Spec PyProof.Rows L2 PySem.W
/-- a comprehension over one iterable whose element knows the frame as it stood when the block began -/
theorem lcI {X : Cx} {pins : List (Addr × Obj)} {s : Shared} {σ : L2.St} {H : Hp} {Q : VK} {elt tg iter : Expr} {scope : Scope} {own : List (Str × Nat)} {pos pos' : Pos} {wi : TI} {g : TG} {te : TE} {use : Option (Value → Sem Unit)} {Qf : Value → Shared → Prop}
    (calm : X.calm = true) (nd : X.N.Nodup) (J0 : Inv X pins σ H s) (pi : PI X tg iter wi) (bo : BlkOk X.N X.env.scope scope own)
    (tgP : ∀ (sz : Shared) (Hz : Hp) (C : Addr) (cl : List (Str × Addr)) (fz : List Addr), PG (X.blk sz Hz scope (compEnvC scope cl C X.env) fz) tg g)
    (elP : ∀ (sz : Shared) (Hz : Hp) (C : Addr) (cl : List (Str × Addr)) (fz : List Addr), Inv X pins σ Hz sz → (∀ b ∈ fz, FpOk X pins Hz b) → PE (X.blk sz Hz scope (compEnvC scope cl C X.env) fz) elt te)
    (fold : ∀ x, foldedSetIterable iter X.env x = pure x) (hw : tLc wi g tYes te (own.map (·.2)) σ H Q)
    (out : ∀ L C sz m Hz, Inv X pins σ Hz sz → Q (.ref L) Hz → sz.heap.Ns C m → FpOk X pins Hz C → compPost (model X.prog X.w) X.A X.xe use Qf (.ref L) C (.ok .next) sz) :
    wpAny (model X.prog X.w) X.A (comprehension (.ListComp elt [⟨tg, iter, [], 0⟩] scope pos) scope X.env pos' (newList []) false (eval iter X.env) use) Qf X.xe s := by
  have cf : ∀ y ∈ scope.names, y.2 = .free → ∃ c, X.env.cells.lookup y.1 = some c := fun y m z => (bo.free y m z).elim (fun k => J0.ok.has _ (.inl k)) fun k => J0.ok.has _ (.inr k)
  refine wpAny_comprehension_free (use := use) rfl fold (closure_ok cf) bo.kind (fun y m z => by rw [bo.uniq y m, z]) (thn (pi.run pins s σ H _ J0 hw) fun v1 sa ha => thn ha fun v2 sb hb => ?_)
  obtain ⟨itr, fz, tz, Jt, Hb, ev, Jb, Tz, stb, fzb, cont⟩ := hb
  subst ev
  refine wpAny_newObj_type (newEnv_comp ?_) (by show 0 ≤ sizeLine; decide)
  have nL : Hb sb.heap.objs.size = none := Jb.hok.fresh (Nat.le_refl _)
  obtain ⟨W, ⟨k0, w0⟩, turns⟩ := cont _ nL
  have J1 : Inv X pins σ (upd Hb sb.heap.objs.size (.lst [])) ({ sb with heap := sb.heap.push { cls := .type "list", data := .seq ([] : List Value).toArray } } : Shared) :=
    Jb.laid (t' := sb.toks) (fun b o e => Heap.get?_push_of_some _ e) (Nat.le_refl _) ⟨Nat.zero_le _, [], 0, .nil, Heap.get?_push_size _ rfl⟩
  have old : ∀ b ∈ fz, b < sb.heap.objs.size := fun b hb => (Tz.obj _ _ stb b hb).elim fun o z => Heap.lt_size z.1
  have fz1 : ∀ b ∈ fz, FpOk X pins (upd Hb sb.heap.objs.size (.lst [])) b ∧ b < ({ sb with heap := sb.heap.push { cls := .type "list", data := .seq ([] : List Value).toArray } } : Shared).heap.objs.size := fun b hb => by
    have lt := old b hb
    refine ⟨⟨by rw [upd_ne (Nat.ne_of_lt lt)]; exact (fzb b hb).1, (fzb b hb).2⟩, ?_⟩
    show b < (sb.heap.push _).objs.size
    rw [Heap.size_push]
    exact Nat.lt_succ_of_lt lt
  have st1 : tz 0 ({ sb with heap := sb.heap.push { cls := .type "list", data := .seq ([] : List Value).toArray } } : Shared).heap := Tz.keep _ _ _ stb fun b _ o e => Heap.get?_push_of_some _ e
  generalize sb.heap.objs.size = L at nL w0 turns J1 fz1 ⊢
  generalize hs1 : ({ sb with heap := sb.heap.push { cls := .type "list", data := .seq ([] : List Value).toArray } } : Shared) = s1 at J1 fz1 st1 ⊢
  generalize upd Hb L (.lst []) = H1 at w0 J1 fz1
  have JB := block_start J1 bo nd fz1
  have tg1 := tgP s1 H1 s1.heap.objs.size (cellsFrom (s1.heap.objs.size + 1) scope.names (cloFrom X.env.cells scope.names [])) fz
  have el1 := elP s1 H1 s1.heap.objs.size (cellsFrom (s1.heap.objs.size + 1) scope.names (cloFrom X.env.cells scope.names [])) fz J1 fun b hb => (fz1 b hb).1
  have e1 : s1.heap = sb.heap.push { cls := .type "list", data := .seq ([] : List Value).toArray } := by rw [← hs1]
  show codeAny _ _ (.compStart (.ListComp elt [⟨tg, iter, [], 0⟩] scope pos) 0 (.ref itr) (.ref L) (compEnvC scope (cellsFrom (s1.heap.objs.size + 1) scope.names (cloFrom X.env.cells scope.names [])) s1.heap.objs.size X.env)) (compPost (model X.prog X.w) X.A X.xe use Qf (.ref L) s1.heap.objs.size) { s1 with heap := pushCells (s1.heap.push { cls := .type "dict", data := .dict #[] }) scope.names }
  have unt : ∀ b ∈ fz, H1 b = none := fun b hb => (fz1 b hb).1.1
  generalize ec : compEnvC scope (cellsFrom (s1.heap.objs.size + 1) scope.names (cloFrom X.env.cells scope.names [])) s1.heap.objs.size X.env = en at JB tg1 el1 ⊢
  have lo : en.locals = s1.heap.objs.size := by rw [← ec]; rfl
  generalize hs2 : ({ s1 with heap := pushCells (s1.heap.push { cls := .type "dict", data := .dict #[] }) scope.names } : Shared) = s2 at JB ⊢
  have st2 : tz 0 s2.heap := Tz.keep _ _ _ st1 fun b _ o e => by rw [← hs2]; exact pushCells_keeps _ _ _ _ (Heap.get?_push_of_some _ e)
  have okf : ∀ {σ' : L2.St} {H' : Hp} {s' : Shared}, Inv (X.blk s1 H1 scope en fz) [] σ' H' s' → (∀ b ∈ fz, H' b = none) → ∀ b ∈ fz, FpOk (X.blk s1 H1 scope en fz) [] H' b := fun {σ' H' s'} J n b hb =>
    ⟨n b hb, (J.ok.exf b hb).1, J.ok.exfs b hb, .inl hb, (fun x c e => (J.ok.exf b hb).2 x c e), fun p hp => by cases (show p ∈ ([] : List (Addr × Obj)) from hp)⟩
  have loop : codeAny (model X.prog X.w) X.A (.compLoop (.ListComp elt [⟨tg, iter, [], 0⟩] scope pos) 0 (.ref itr) (.ref L) en) (compPost (model X.prog X.w) X.A X.xe use Qf (.ref L) s1.heap.objs.size) s2 := by
    refine compLoop_any (fun n sz => ∃ i Hz, Inv (X.blk s1 H1 scope en fz) [] (wipe σ (own.map (·.2))) Hz sz ∧ tz i sz.heap ∧ (∀ b ∈ fz, Hz b = none) ∧ W i n Hz) ?_ k0 ⟨0, H1, JB, st2, unt, w0⟩
    rintro n s3 ⟨i, H3, J3, st3, n3, w3⟩
    rcases turns i n H3 w3 with ⟨stp, q3⟩ | ⟨gos, Nx, hNx, stepN⟩
    · refine thnF (Tz.done (X.blk s1 H1 scope en fz) rfl rfl rfl calm i [] s3 _ H3 (fun _ _ => False) J3 (okf J3 n3) st3 stp) fun r s4 h4 => ?_
      obtain ⟨rfl, J4⟩ := h4
      have free : H3 s1.heap.objs.size = none := by rw [← lo]; exact J4.free
      obtain ⟨m, ns, _⟩ := J4.loc
      refine out L _ s4 m H3 (J1.call' (ch := fz) J4.os J4.base J4.hok J4.bare fun b hb => ?_) q3 (by rw [← lo]; exact ns) (J1.fpOk (Nat.le_refl _) free)
      obtain ⟨_, a2, a3, a4, a5, a6⟩ := (fz1 b hb).1
      exact ⟨a4, a2, a5, a6⟩
    · refine thnF (Tz.item (X.blk s1 H1 scope en fz) rfl rfl rfl calm i [] s3 _ H3 (fun _ _ => False) J3 (okf J3 n3) st3 gos) fun r s4 h4 => ?_
      obtain ⟨u, rfl, h4⟩ := h4
      refine thnF h4 fun _ s5 h5 => ?_
      obtain ⟨x, H5, J5, ru, yl, st5, n5⟩ := h5
      refine thnF (tg1.run _ s5 _ H5 x u _ (J5.pinned (okf J5 n5) (Tz.obj _ _ st5)) ru (stepN x H5 yl)) fun _ s6 h6 => ?_
      obtain ⟨σ6, H6, J6, w6, q6⟩ := h6
      refine wpAny_tests_nil ?_
      simp only [if_true]
      refine thnF (el1.run _ s6 σ6 H6 _ J6 q6) fun z s7 h7 => ?_
      obtain ⟨y, H7, J7, ry, acc, hL7, hz7, nx⟩ := h7
      refine app_ok (X := X.blk s1 H1 scope en fz) J7 hL7 hz7 ry fun s8 J8 => ?_
      obtain ⟨k8, lt8, w8⟩ := hNx _ nx
      have keep8 : ∀ b ∈ fz, ∀ o, s5.heap.get? b = some o → s8.heap.get? b = some o ∧ (upd H7 L (.lst (acc ++ [y]))) b = none := fun b hb o e => by
        have z := J8.pin (b, o) (List.mem_append_right _ (List.mem_append_right _ (mem_pinsAt hb e)))
        exact ⟨z.1, z.2.1⟩
      have len8 : (wipe σ (own.map (·.2))).length = σ6.length := by rw [← w6, wipe_length]
      refine ⟨k8, lt8, i + 1, _, (J8.unpinned (pins := [])).weak len8 (fun j v e => ?_), Tz.keep _ _ _ st5 fun b hb o e => (keep8 b hb o e).1, fun b hb => ?_, w8⟩
      · rw [← w6] at e
        exact (wipe_some e).1
      · obtain ⟨o, e, _⟩ := Tz.obj _ _ st5 b hb
        exact (keep8 b hb o e).2
  exact codeAny_compStart_list loop (Tz.self X.A 0 _ _ _ st2 loop)
/-- [elt for target in iter]: what the element says may lean on the frame's values -/
theorem pe_lcI {X : Cx} {elt tg iter : Expr} {scope : Scope} {own : List (Str × Nat)} {pos : Pos} {wi : TI} {g : TG} {te : L2.St → TE} (calm : X.calm = true) (nd : X.N.Nodup) (pi : PI X tg iter wi) (bo : BlkOk X.N X.env.scope scope own)
    (tgP : ∀ (sz : Shared) (Hz : Hp) (C : Addr) (cl : List (Str × Addr)) (fz : List Addr), PG (X.blk sz Hz scope (compEnvC scope cl C X.env) fz) tg g)
    (elP : ∀ (pins : List (Addr × Obj)) (σ : L2.St) (sz : Shared) (Hz : Hp) (C : Addr) (cl : List (Str × Addr)) (fz : List Addr), Inv X pins σ Hz sz → (∀ b ∈ fz, FpOk X pins Hz b) → PE (X.blk sz Hz scope (compEnvC scope cl C X.env) fz) elt (te σ))
    (fold : ∀ x, foldedSetIterable iter X.env x = pure x := by intro _; rfl) : PE X (.ListComp elt [⟨tg, iter, [], 0⟩] scope pos) (fun σ H Q => tLc wi g tYes (te σ) (own.map (·.2)) σ H Q) := by
  refine ⟨fun pins s σ H Q I hw => ?_⟩
  rw [eval_ListComp]
  refine lcI calm nd I pi bo tgP (elP pins σ) fold hw fun L C sz m Hz Iz q ns fo => ⟨m, ns, fun h2 sb => ?_⟩
  obtain ⟨f0, f1, f2, f3, f4, f5⟩ := fo
  exact ⟨.ref L, Hz, Iz.turned (t' := sz.toks) (fun b o ne e => (sb.2 b ne).trans e) f0 f1 f3 f4 f5, rfl, q⟩
/-! ### a lambda that is kept -/
/-- the thing at f is a function object of this kind -/
def FnO (f : Addr) (φ : Obj → Prop) : HO := .ext fun h => ∃ o, h.get? f = some o ∧ φ o
theorem FnO.get {P : Program} {w : World} {H : Hp} {h : Heap} (ok : HOk P w H h) {f : Addr} {φ : Obj → Prop} (e : H f = some (FnO f φ)) : ∃ o, h.get? f = some o ∧ φ o := (ok f _ e).1
theorem FnO.new {P : Program} {w : World} {H : Hp} {h : Heap} {o : Obj} {φ : Obj → Prop} (p : φ o) (hs : o.isFreed = false) : ObjOk P w H (h.push o) h.objs.size (FnO h.objs.size φ) :=
  ⟨⟨o, Heap.get?_push_size _ hs, p⟩, ⟨o, Heap.get?_push_size _ hs⟩, fun h1 h2 ⟨o', e, q⟩ st => ⟨o', st _ e, q⟩⟩
theorem fnO_ne {f : Addr} {φ : Obj → Prop} (ps : Array Value) : FnO f φ ≠ .tbl ps := fun z => by
  unfold FnO at z
  cases z
/-- a code object more in the table -/
theorem tab_grow {T : List (Addr × Str)} {H : Hp} {P d : Addr} {ps : Array Value} {q : Str} {l k : Int} (hP : H P = some (.tbl ps)) (ht : TriplesOk ps.toList) (ha : ∀ (pos : Pos) (cv : Value), codeAmong pos ps.toList = some cv → ∃ c, cv = .ref c ∧ H c = some (LamX.CodeO c q))
    (hu : ∀ p ∈ T, p.1 = P → p.2 = q) (hT : LamX.Tabs T H) (nd : H d = none) {pos : Pos} (hl : rawInt l = rawInt pos.line) (hk : rawInt k = rawInt pos.col) :
    LamX.ExtN H (upd (upd H P (.tbl (ps ++ #[rawInt l, rawInt k, .ref d]))) d (LamX.CodeO d q)) ∧ LamX.Tabs T (upd (upd H P (.tbl (ps ++ #[rawInt l, rawInt k, .ref d]))) d (LamX.CodeO d q)) := by
  have ex : LamX.ExtN H (upd (upd H P (.tbl (ps ++ #[rawInt l, rawInt k, .ref d]))) d (LamX.CodeO d q)) := fun b o e n => by
    have bd := ne_of_none e nd
    have bP : b ≠ P := fun z => n ps (by rw [z, hP] at e; exact (Option.some.inj e).symm)
    rw [upd_ne bd, upd_ne bP]
    exact e
  refine ⟨ex, fun p hp => ?_⟩
  by_cases hb : p.1 = P
  · rw [hu p hp hb, hb]
    refine ⟨ps ++ #[rawInt l, rawInt k, .ref d], by rw [upd_ne (ne_of_none hP nd), upd_same], ?_, fun p' cv hcv => ?_⟩
    · rw [show (ps ++ #[rawInt l, rawInt k, .ref d]).toList = ps.toList ++ [rawInt l, rawInt k, .ref d] by simp]
      exact PySem.TriplesOk_snoc _ _ _ _ ht
    · rw [show (ps ++ #[rawInt l, rawInt k, .ref d]).toList = ps.toList ++ [rawInt pos.line, rawInt pos.col, .ref d] by rw [hl, hk]; simp] at hcv
      rcases LamX.among_app _ ht hcv with z | z
      · obtain ⟨c0, e1, e2⟩ := ha p' cv z
        exact ⟨c0, e1, ex _ _ e2 LamX.codeO_ne⟩
      · exact ⟨d, z, upd_same⟩
  · obtain ⟨ps', a1, a2, a3⟩ := hT p hp
    refine ⟨ps', by rw [upd_ne (ne_of_none a1 nd), upd_ne hb]; exact a1, a2, fun p' cv hcv => ?_⟩
    obtain ⟨c0, e1, e2⟩ := a3 p' cv hcv
    exact ⟨c0, e1, ex _ _ e2 LamX.codeO_ne⟩
/-- a function object of a lambda without parameters -/
def PlainP (cl : List (Str × Addr)) (q : Str) (params : Arguments) (body : Expr) (scope : Scope) (c : Addr) : Obj → Prop := fun o => ∃ pm ctv, o = kla_obj "<lambda>" q params body scope (cloFrom cl scope.names []) pm c ctv
/-- .. with one that has a default -/
def DfltP (cl : List (Str × Addr)) (q : Str) (params : Arguments) (body : Expr) (scope : Scope) (p c : Addr) : Obj → Prop := fun o => ∃ doc pm ctv, o = kdv_obj "<lambda>" q params (.expr body) scope (cloFrom cl scope.names []) (.ref p) doc pm c ctv
section
variable {X : Cx} {pins : List (Addr × Obj)} {σ : L2.St} {H : Hp} {s : Shared}
theorem lam_keep {T : List (Addr × Str)} {c P : Addr} {params : Arguments} {body : Expr} {scope : Scope} {pos : Pos} {E : Value → Shared → Prop} {Q : Value → Shared → Prop} (I : Inv X pins σ H s) (TB : LamX.TabB X.base X.mg c P) (hcode : X.env.code = .ref c)
    (hm : (P, X.env.qual ++ "<lambda>") ∈ T) (hu : ∀ p ∈ T, p.1 = P → p.2 = X.env.qual ++ "<lambda>") (hT : LamX.Tabs T H) (hdef : defaultsOf params X.env = ([], [])) (hfree : ∀ y ∈ scope.names, y.2 = .free → ∃ c, X.env.cells.lookup y.1 = some c)
    (h : ∀ (f d : Addr) (H1 : Hp) (s' : Shared), Inv X pins σ H1 s' → LamX.ExtN H H1 → LamX.Tabs T H1 → H f = none → H1 f = some (FnO f (PlainP X.env.cells (X.env.qual ++ "<lambda>") params body scope d)) → H1 d = some (LamX.CodeO d (X.env.qual ++ "<lambda>")) → Q (.ref f) s') :
    wpAny (model X.prog X.w) X.A (eval (.Lambda params body scope pos) X.env) Q E s := by
  obtain ⟨ps, hP, ht, ha⟩ := hT _ hm
  have bo := TB.bm.keeps I.bk
  have oP : s.heap.get? P = some { cls := .none, data := .fields ps } := I.hok P _ hP
  refine kla_eval hdef ?_
  cases hit : codeAmong pos ps.toList with
  | some cv =>
    obtain ⟨d, rfl, hd⟩ := ha pos cv hit
    refine kla_makeFunctionHit (mg := X.mg) (c := c) (P := P) (ps := ps) (closure_ok hfree) I.ok.glob (I.mod.glob.keeps I.bk) hcode (TB.code.keeps I.bk) oP ht hit bo fun ctv h' tk hx hsz => ?_
    have nf : H h'.objs.size = none := I.hok.fresh hsz
    have J := I.laid (t' := tk) (fun b o e => Heap.get?_push_of_some _ (hx b o e)) hsz (FnO.new (φ := PlainP X.env.cells (X.env.qual ++ "<lambda>") params body scope d) (o := kla_obj "<lambda>" (X.env.qual ++ "<lambda>") params body scope (cloFrom X.env.cells scope.names []) ((X.mg "__name__").getD .none) d ctv) ⟨_, _, rfl⟩ rfl)
    exact h _ d _ _ J (fun b o e _ => by rw [upd_ne (ne_of_none e nf)]; exact e) (hT.ext fun b o e => by rw [upd_ne (ne_of_none e nf)]; exact e) nf upd_same (by rw [upd_ne (ne_of_none hd nf)]; exact hd)
  | none =>
    refine kla_makeFunction (mg := X.mg) (c := c) (P := P) (ps := ps) (closure_ok hfree) I.ok.glob (I.mod.glob.keeps I.bk) hcode (TB.code.keeps I.bk) oP ht hit TB.gP bo fun d ctv h' tk hx hge hlt hrec htb => ?_
    obtain ⟨d', oc, vs, t, ed, hoc, hdc, hvc⟩ := hrec
    cases ed
    have ndd : H d = none := I.hok.fresh hge
    have J1 := LamX.inv_table (t' := tk) (more := #[rawInt pos.line, rawInt pos.col, .ref d]) (h' := h') I hP (fun b o hb e => hx b o hb e) htb hge ⟨oc, vs, t, hoc, hdc, hvc⟩
    obtain ⟨ex, T1⟩ := tab_grow (pos := pos) hP ht ha hu hT ndd rfl rfl
    have nf1 := J1.hok.fresh (Nat.le_refl h'.objs.size)
    have nf : H h'.objs.size = none := I.hok.fresh (Nat.le_trans hge (Nat.le_of_lt hlt))
    have J := J1.laid (t' := tk) (fun b o e => Heap.get?_push_of_some _ e) (Nat.le_refl _) (FnO.new (φ := PlainP X.env.cells (X.env.qual ++ "<lambda>") params body scope d) (o := kla_obj "<lambda>" (X.env.qual ++ "<lambda>") params body scope (cloFrom X.env.cells scope.names []) ((X.mg "__name__").getD .none) d ctv) ⟨_, _, rfl⟩ rfl)
    exact h _ d _ _ J (ex.trans fun b o e _ => by rw [upd_ne (ne_of_none e nf1)]; exact e) (T1.ext fun b o e => by rw [upd_ne (ne_of_none e nf1)]; exact e) nf upd_same (by rw [upd_ne (Nat.ne_of_lt hlt), upd_same])
theorem lam_keepD {T : List (Addr × Str)} {c P : Addr} {n : Int} {e0 : Expr} {params : Arguments} {body : Expr} {scope : Scope} {pos : Pos} {E : Value → Shared → Prop} {Q : Value → Shared → Prop} (I : Inv X pins σ H s) (TB : LamX.TabB X.base X.mg c P) (hcode : X.env.code = .ref c)
    (hm : (P, X.env.qual ++ "<lambda>") ∈ T) (hu : ∀ p ∈ T, p.1 = P → p.2 = X.env.qual ++ "<lambda>") (hT : LamX.Tabs T H) (hd : params.defaults = [e0]) (hk0 : params.kw_defaults = []) (he : PE X e0 (tC (.int n))) (hfree : ∀ y ∈ scope.names, y.2 = .free → ∃ c, X.env.cells.lookup y.1 = some c)
    (h : ∀ (f d p : Addr) (H1 : Hp) (s' : Shared), Inv X pins σ H1 s' → LamX.ExtN H H1 → LamX.Tabs T H1 → H f = none → H1 p = some (.tup [.int n]) → H1 f = some (FnO f (DfltP X.env.cells (X.env.qual ++ "<lambda>") params body scope p d)) → H1 d = some (LamX.CodeO d (X.env.qual ++ "<lambda>")) → Q (.ref f) s')
    (hE : ∀ e s', X.xe e s' → E e s') : wpAny (model X.prog X.w) X.A (eval (.Lambda params body scope pos) X.env) Q E s := by
  refine kdv_lam (by rw [hd]; rfl) hk0 ?_
  rw [hd]
  refine kdv_all1 (wpAny_mono (he.run pins s σ H (fun v H1 => v = .int n ∧ H1 = H) I ⟨rfl, rfl⟩) (fun v s0 hv => kdv_all0 ?_) hE)
  obtain ⟨x, H0, I0, rv, ex0, eH0⟩ := hv
  subst ex0 eH0
  rw [makeFunction_eq]
  simp only [List.zip_nil_right, List.filterMap_nil, List.isEmpty_nil, if_true, pure_bind, List.isEmpty_cons, Bool.false_eq_true, if_false]
  refine wpAny_bind (wpAny_newTextTuple ?_)
  have np : H0 s0.heap.objs.size = none := I0.hok.fresh (Nat.le_refl _)
  have I1 : Inv X pins σ (upd H0 s0.heap.objs.size (.tup [.int n])) { s0 with heap := s0.heap.push (kdv_tup [v]) } :=
    I0.laid (t' := s0.toks) (fun b u e => Heap.get?_push_of_some _ e) (Nat.le_refl _) ⟨by show 1 ≤ sizeLine; decide, [v], .cons rv .nil, ⟨_, Heap.get?_push_size _ rfl, rfl, _, rfl⟩⟩
  have ex1 : LamX.ExtN H0 (upd H0 s0.heap.objs.size (.tup [.int n])) := fun b o e _ => by rw [upd_ne (ne_of_none e np)]; exact e
  have hp1 : (upd H0 s0.heap.objs.size (.tup [.int n])) s0.heap.objs.size = some (.tup [.int n]) := upd_same
  have hT1 : LamX.Tabs T (upd H0 s0.heap.objs.size (.tup [.int n])) := hT.ext fun b o e => by rw [upd_ne (ne_of_none e np)]; exact e
  have back : ∀ b, (upd H0 s0.heap.objs.size (.tup [.int n])) b = none → H0 b = none := fun b e => by
    by_cases z : b = s0.heap.objs.size
    · rw [z]; exact np
    · rw [upd_ne z] at e; exact e
  generalize s0.heap.objs.size = p at *
  generalize upd H0 p (.tup [.int n]) = H1 at *
  generalize ({ s0 with heap := s0.heap.push (kdv_tup [v]) } : Shared) = s1 at *
  obtain ⟨ps, hP, ht, ha⟩ := hT1 _ hm
  have bo := TB.bm.keeps I1.bk
  have oP : s1.heap.get? P = some { cls := .none, data := .fields ps } := I1.hok P _ hP
  cases hit : codeAmong pos ps.toList with
  | some cv =>
    obtain ⟨d, rfl, hdc⟩ := ha pos cv hit
    refine kdv_makeTailHit (mg := X.mg) (c := c) (P := P) (ps := ps) (closure_ok hfree) I1.ok.glob (I1.mod.glob.keeps I1.bk) hcode (TB.code.keeps I1.bk) oP ht hit bo fun ctv doc h' tk hx hsz => ?_
    have nf : H1 h'.objs.size = none := I1.hok.fresh hsz
    have J := I1.laid (t' := tk) (fun b o e => Heap.get?_push_of_some _ (hx b o e)) hsz (FnO.new (φ := DfltP X.env.cells (X.env.qual ++ "<lambda>") params body scope p d) (o := kdv_obj "<lambda>" (X.env.qual ++ "<lambda>") params (.expr body) scope (cloFrom X.env.cells scope.names []) (.ref p) doc ((X.mg "__name__").getD .none) d ctv) ⟨_, _, _, rfl⟩ rfl)
    exact h _ d p _ _ J (ex1.trans fun b o e _ => by rw [upd_ne (ne_of_none e nf)]; exact e) (hT1.ext fun b o e => by rw [upd_ne (ne_of_none e nf)]; exact e) (back _ nf) (by rw [upd_ne (ne_of_none hp1 nf)]; exact hp1) upd_same (by rw [upd_ne (ne_of_none hdc nf)]; exact hdc)
  | none =>
    refine kdv_makeTail (mg := X.mg) (c := c) (P := P) (ps := ps) (closure_ok hfree) I1.ok.glob (I1.mod.glob.keeps I1.bk) hcode (TB.code.keeps I1.bk) oP ht hit TB.gP bo fun d ctv doc h' tk hx hge hlt hrec htb => ?_
    obtain ⟨d', oc, vs, t, ed, hoc, hdc, hvc⟩ := hrec
    cases ed
    have ndd : H1 d = none := I1.hok.fresh hge
    have J1 := LamX.inv_table (t' := tk) (more := #[rawInt pos.line, rawInt pos.col, .ref d]) (h' := h') I1 hP (fun b o hb e => hx b o hb e) htb hge ⟨oc, vs, t, hoc, hdc, hvc⟩
    obtain ⟨ex2, T2⟩ := tab_grow (pos := pos) hP ht ha hu hT1 ndd rfl rfl
    have nf1 := J1.hok.fresh (Nat.le_refl h'.objs.size)
    have nf : H1 h'.objs.size = none := I1.hok.fresh (Nat.le_trans hge (Nat.le_of_lt hlt))
    have J := J1.laid (t' := tk) (fun b o e => Heap.get?_push_of_some _ e) (Nat.le_refl _) (FnO.new (φ := DfltP X.env.cells (X.env.qual ++ "<lambda>") params body scope p d) (o := kdv_obj "<lambda>" (X.env.qual ++ "<lambda>") params (.expr body) scope (cloFrom X.env.cells scope.names []) (.ref p) doc ((X.mg "__name__").getD .none) d ctv) ⟨_, _, _, rfl⟩ rfl)
    have ex3 : ∀ o' : HO, LamX.ExtN (upd (upd H1 P (.tbl (ps ++ #[rawInt pos.line, rawInt pos.col, .ref d]))) d (LamX.CodeO d (X.env.qual ++ "<lambda>"))) (upd (upd (upd H1 P (.tbl (ps ++ #[rawInt pos.line, rawInt pos.col, .ref d]))) d (LamX.CodeO d (X.env.qual ++ "<lambda>"))) h'.objs.size o') := fun o' b o e _ => by rw [upd_ne (ne_of_none e nf1)]; exact e
    exact h _ d p _ _ J (ex1.trans (ex2.trans (ex3 _))) (T2.ext fun b o e => by rw [upd_ne (ne_of_none e nf1)]; exact e) (back _ nf) (ex3 _ _ _ (ex2 _ _ hp1 fun ps z => by cases z) fun ps z => by cases z) upd_same (by rw [upd_ne (Nat.ne_of_lt hlt), upd_same])
end
/-- the kept lambda at f -/
def LamAt (cl : List (Str × Addr)) (q : Str) (params : Arguments) (body : Expr) (scope : Scope) (f : Addr) (H : Hp) : Prop := ∃ d, H d = some (LamX.CodeO d q) ∧ H f = some (FnO f (PlainP cl q params body scope d))
def LamAtD (cl : List (Str × Addr)) (q : Str) (params : Arguments) (body : Expr) (scope : Scope) (n : Int) (f : Addr) (H : Hp) : Prop := ∃ d p, H d = some (LamX.CodeO d q) ∧ H p = some (.tup [.int n]) ∧ H f = some (FnO f (DfltP cl q params body scope p d))
theorem LamAt.mv {cl : List (Str × Addr)} {q : Str} {params : Arguments} {body : Expr} {scope : Scope} {f : Addr} {H H' : Hp} (h : LamAt cl q params body scope f H) (k : ∀ b o, (∀ xs, o ≠ .lst xs) → (∀ ps, o ≠ .tbl ps) → H b = some o → H' b = some o) : LamAt cl q params body scope f H' := by
  obtain ⟨d, h1, h2⟩ := h
  exact ⟨d, k _ _ (fun xs z => by unfold LamX.CodeO at z; cases z) LamX.codeO_ne h1, k _ _ (fun xs z => by unfold FnO at z; cases z) fnO_ne h2⟩
theorem LamAtD.mv {cl : List (Str × Addr)} {q : Str} {params : Arguments} {body : Expr} {scope : Scope} {n : Int} {f : Addr} {H H' : Hp} (h : LamAtD cl q params body scope n f H) (k : ∀ b o, (∀ xs, o ≠ .lst xs) → (∀ ps, o ≠ .tbl ps) → H b = some o → H' b = some o) : LamAtD cl q params body scope n f H' := by
  obtain ⟨d, p, h1, h2, h3⟩ := h
  exact ⟨d, p, k _ _ (fun xs z => by unfold LamX.CodeO at z; cases z) LamX.codeO_ne h1, k _ _ (fun xs z => by cases z) (fun ps z => by cases z) h2, k _ _ (fun xs z => by unfold FnO at z; cases z) fnO_ne h3⟩
/-! ### it is called -/
def tActF (W : WX) (f : Addr) (G : Hp → Prop) (i : Nat) (tl : XK → Hp → VK → Prop) : TE := fun σ H Q => σ[i]? = some (some (.ref f)) ∧ G H ∧ ∃ (E : XK) (Q0 : VK), (∀ cls d H', E cls d H' → W cls d σ H') ∧ (∀ v H', Q0 v H' → Q v H') ∧ tl E H Q0
/-- whoever calls what is at f runs this -/
def ActOk (X : Cx) (k : Nat) (G : Addr → Hp → Prop) (t : XK → TE) : Prop :=
  ∀ {pins : List (Addr × Obj)} {σ : L2.St} {H : Hp} {s : Shared} {f : Addr}, Inv X pins σ H s → ∀ {CXg : CXT} {Eg : XK} {Ng : List Str} {qg : Str} {sg : Scope} {g : Addr} {cdg : Value} {i : Nat} {a : Str} {pn : List (Addr × Obj)} {xe : Value → Shared → Prop} {W : WX} {p1 p2 : Pos} {A0 : Around} {outer0 : List Env} {s2 : Shared} {H2 : Hp},
    (∀ (H' : Hp) (h' : Heap), Un (frs outer0) [] H2 H' s2.heap h' → Un (frs X.stack) [] H H' s.heap h') →
    L2N.Takes ((cxOf CXg X.prog X.w X.K X.mg X.base Ng qg sg g cdg A0 outer0 s2 H2 Eg).tr pn xe) W → Room (k + 1) (A0.deeper (envOfC qg sg s2.heap.objs.size g cdg)) →
    Ng[i]? = some a → Vis sg a → (a == ("__debug__" : Str)) = false → (a == ("__classdict__" : Str)) = false →
    PE ((cxOf CXg X.prog X.w X.K X.mg X.base Ng qg sg g cdg A0 outer0 s2 H2 Eg).tr pn xe) (.Call (.Name a p1) [] [] p2) (tActF W f (G f) i fun E HZ Q => t E σ HZ Q)
theorem act_plain {X : Cx} {params : Arguments} {body : Expr} {scope : Scope} {k : Nat} {tb : XK → TE} (L : LamX.LamS X.env.scope scope)
    (hbind : ∀ (q : Str) (cl : List (Str × Addr)) (pm cv ctv : Value), bindArgs (kla_fn "<lambda>" q params body scope cl pm cv ctv) ⟨[], []⟩ = pure [])
    (hbody : ∀ (A : Around) (outer : List Env) (s : Shared) (H : Hp) (E : XK) (f c : Addr), Room k (A.deeper (LamX.lamEnv X scope s.heap.objs.size f c)) → PE (LmN.lamC X A outer s H E scope f c) body (tb E)) : ActOk X k (LamAt X.env.cells (X.env.qual ++ "<lambda>") params body scope) tb := by
  intro pins σ H s f I CXg Eg Ng qg sg g cdg i a pn xe W p1 p2 A0 outer0 s2 H2 hun tk hr hN hv hd hcd
  refine ⟨fun pinsZ sZ σZ HZ Q IZ h => ?_⟩
  obtain ⟨hs, ⟨d, hd1, hf1⟩, E, Q0, hE, hQ, ht⟩ := h
  refine wpAny_Call_Name_kw (thn ((pe_var (pos := p1) (i := i) hN hv hd hcd).run pinsZ sZ σZ HZ (fun v H1 => v = .ref f ∧ H1 = HZ) IZ ⟨.ref f, hs, rfl, rfl⟩) fun u s1 hu => ?_)
  obtain ⟨v, H1, I1, r1, ev, eH⟩ := hu
  subst ev eH
  obtain rfl : u = Value.ref f := r1
  have un : Un (frs X.stack) [] H H1 s.heap s1.heap := hun _ _ I1.base
  obtain ⟨o, fo, pm, ctv, rfl⟩ := FnO.get I1.hok hf1
  refine callWith_F0 ⟨_, _, _, _, fo⟩ ?_
  obtain ⟨⟨oc, vs, t, hoc, hdc, hvc⟩, _, _⟩ := I1.hok d _ hd1
  have rc : codeAny (model X.prog X.w) (A0.deeper (envOfC qg sg s2.heap.objs.size g cdg)) (.call (.ref f) ⟨[], []⟩) (CR (L2N.CX X.prog X.w) (envOfC qg sg s2.heap.objs.size g cdg :: outer0) X.prog X.w H1 s1 Q E) s1 := by
    refine kla_callFunE hr.depth fo rfl L.co L.gen rfl ⟨d, oc, vs, t, rfl, hoc, hdc, hvc⟩ ?_
    rw [hbind]
    refine wpAny_pure (wpAny_newFunctionEnv (fun y hy => (L.own y hy).2) (fun y hy => absurd hy (by simp)) (fun h₁ hns hsb => ⟨I1.nolimit.fresh _ hsb, ?_⟩) L.kind)
    show codeAny _ _ (.expr body (LamX.lamEnv X scope s1.heap.objs.size f d)) _ _
    have keep : ∀ b o, s1.heap.get? b = some o → h₁.get? b = some o := fun b o e => hsb.extBut b o (Nat.ne_of_lt (Heap.lt_size e)) (Heap.get?_push_of_some _ e)
    have J0 := LamX.lam_start2 (A := A0.deeper (envOfC qg sg s2.heap.objs.size g cdg)) (outer := envOfC qg sg s2.heap.objs.size g cdg :: outer0) (E := E) (f := f) (c' := d) (tk := s1.toks + ([] : List (Str × Value)).length) I L I1.env0 hr.hd un hns keep
    have J : Inv (LmN.lamC X (A0.deeper (envOfC qg sg s2.heap.objs.size g cdg)) (envOfC qg sg s2.heap.objs.size g cdg :: outer0) s1 H1 E scope f d) [] σ H1 _ := J0.wish _
    refine kla_codeExpr (wpAny_mono ((hbody _ _ s1 H1 E f d (hr.deeper _)).run [] _ _ H1 Q0 J ht) (fun v s' hq => ?_) fun e s' hq => hq)
    obtain ⟨w', H', J', rv, q⟩ := hq
    exact ⟨w', H', J'.os, J'.bare, J'.base, J'.hok, rv, hQ _ _ q⟩
  refine wpAny_call (codeAny_mono rc fun r s' hq => ?_)
  cases r with
  | error e => exact tk e s' (L2N.XE.of_call I1 hE hq)
  | ok fl =>
    cases fl with
    | ret u => exact I1.after hq
    | next => exact False.elim hq
    | brk => exact False.elim hq
    | cont => exact False.elim hq
theorem act_dflt {X : Cx} {x : Str} {n : Int} {params : Arguments} {body : Expr} {scope : Scope} {k : Nat} {tb : XK → TE} (L : LmN.LamD X.N x X.env.scope scope) (hbind : LmN.DBind params body scope x)
    (hbody : ∀ (A : Around) (outer : List Env) (s : Shared) (H : Hp) (E : XK) (f c : Addr), Room k (A.deeper (LamX.lamEnv X scope s.heap.objs.size f c)) → PE (LmN.lamC X A outer s H E scope f c) body (tb E)) : ActOk X k (LamAtD X.env.cells (X.env.qual ++ "<lambda>") params body scope n) tb := by
  intro pins σ H s f I CXg Eg Ng qg sg g cdg i a pn xe W p1 p2 A0 outer0 s2 H2 hun tk hr hN hv hd hcd
  refine ⟨fun pinsZ sZ σZ HZ Q IZ h => ?_⟩
  obtain ⟨hs, ⟨d, p, hd1, hp1, hf1⟩, E, Q0, hE, hQ, ht⟩ := h
  refine wpAny_Call_Name_kw (thn ((pe_var (pos := p1) (i := i) hN hv hd hcd).run pinsZ sZ σZ HZ (fun v H1 => v = .ref f ∧ H1 = HZ) IZ ⟨.ref f, hs, rfl, rfl⟩) fun u s1 hu => ?_)
  obtain ⟨v, H1, I1, r1, ev, eH⟩ := hu
  subst ev eH
  obtain rfl : u = Value.ref f := r1
  have un : Un (frs X.stack) [] H H1 s.heap s1.heap := hun _ _ I1.base
  obtain ⟨o, fo, doc, pm, ctv, rfl⟩ := FnO.get I1.hok hf1
  obtain ⟨_, us, rus, op, hop, _, nn, hop2⟩ := I1.hok p _ hp1
  obtain ⟨k0, hb1, hb2⟩ := hbind (X.env.qual ++ "<lambda>") (cloFrom X.env.cells scope.names []) p doc pm (.ref d) ctv
  cases rus with
  | cons ru rn =>
  cases rn with
  | nil =>
  rename_i u0
  refine callWith_F0 ⟨_, _, _, _, fo⟩ ?_
  obtain ⟨⟨oc, vs, t, hoc, hdc, hvc⟩, _, _⟩ := I1.hok d _ hd1
  have rc : codeAny (model X.prog X.w) (A0.deeper (envOfC qg sg s2.heap.objs.size g cdg)) (.call (.ref f) ⟨[], []⟩) (CR (L2N.CX X.prog X.w) (envOfC qg sg s2.heap.objs.size g cdg :: outer0) X.prog X.w H1 s1 Q E) s1 := by
    refine kla_callFunE hr.depth fo rfl L.co L.gen rfl ⟨d, oc, vs, t, rfl, hoc, hdc, hvc⟩ ?_
    refine (BindsTo.of_defaults (binds := [(x, u0)]) (k := k0) rfl hop hop2 hb1 (hb2 u0)) _ _ _ _ ?_
    refine wpAny_newFunctionEnv (fun y hy => (L.own y hy).1) (fun y hy => by rw [List.mem_singleton.mp hy]; exact L.par) (fun h₁ hns hsb => ⟨I1.nolimit.fresh _ hsb, ?_⟩) L.kind
    show codeAny _ _ (.expr body (LamX.lamEnv X scope s1.heap.objs.size f d)) _ _
    have keep : ∀ b o, s1.heap.get? b = some o → h₁.get? b = some o := fun b o e => hsb.extBut b o (Nat.ne_of_lt (Heap.lt_size e)) (Heap.get?_push_of_some _ e)
    have J0 := LmN.lam_startD (A := A0.deeper (envOfC qg sg s2.heap.objs.size g cdg)) (outer := envOfC qg sg s2.heap.objs.size g cdg :: outer0) (E := E) (f := f) (c' := d) (tk := s1.toks + ([(x, u0)] : List (Str × Value)).length) I L I1.env0 hr.hd un hns keep
    have J : Inv (LmN.lamC X (A0.deeper (envOfC qg sg s2.heap.objs.size g cdg)) (envOfC qg sg s2.heap.objs.size g cdg :: outer0) s1 H1 E scope f d) [] σ H1 _ := J0.wish _
    refine kla_codeExpr (wpAny_mono ((hbody _ _ s1 H1 E f d (hr.deeper _)).run [] _ _ H1 Q0 J ht) (fun v s' hq => ?_) fun e s' hq => hq)
    obtain ⟨w', H', J', rv, q⟩ := hq
    exact ⟨w', H', J'.os, J'.bare, J'.base, J'.hok, rv, hQ _ _ q⟩
  refine wpAny_call (codeAny_mono rc fun r s' hq => ?_)
  cases r with
  | error e => exact tk e s' (L2N.XE.of_call I1 hE hq)
  | ok fl =>
    cases fl with
    | ret u => exact I1.after hq
    | next => exact False.elim hq
    | brk => exact False.elim hq
    | cont => exact False.elim hq
/-- all but lists and tables stay -/
def Firm (H H' : Hp) : Prop := ∀ b o, (∀ xs, o ≠ .lst xs) → (∀ ps, o ≠ .tbl ps) → H b = some o → H' b = some o
/-- at f is a lambda that, called, does t -/
def KeptAs (X : Cx) (k : Nat) (t : XK → TE) (f : Addr) (H : Hp) : Prop := ∃ G : Addr → Hp → Prop, ActOk X k G t ∧ (∀ f H1 H2, G f H1 → Firm H1 H2 → G f H2) ∧ G f H
theorem KeptAs.mv {X : Cx} {k : Nat} {t : XK → TE} {f : Addr} {H H' : Hp} (h : KeptAs X k t f H) (m : Firm H H') : KeptAs X k t f H' := by
  obtain ⟨G, h1, h2, h3⟩ := h
  exact ⟨G, h1, h2, h2 _ _ _ h3 m⟩
def tKeep (T : List (Addr × Str)) (X : Cx) (k : Nat) (t : XK → TE) : TE := fun σ H Q => LamX.Tabs T H ∧ ∀ H1 f, LamX.ExtN H H1 → LamX.Tabs T H1 → H f = none → KeptAs X k t f H1 → Q (.ref f) H1
theorem pe_keep {X : Cx} {T : List (Addr × Str)} {c P : Addr} {params : Arguments} {body : Expr} {scope : Scope} {pos : Pos} {k : Nat} {t : XK → TE} (TB : LamX.TabB X.base X.mg c P) (hcode : X.env.code = .ref c) (hm : (P, X.env.qual ++ "<lambda>") ∈ T) (hu : ∀ p ∈ T, p.1 = P → p.2 = X.env.qual ++ "<lambda>")
    (L : LamX.LamS X.env.scope scope) (hdef : defaultsOf params X.env = ([], [])) (hbind : ∀ (q : Str) (cl : List (Str × Addr)) (pm cv ctv : Value), bindArgs (kla_fn "<lambda>" q params body scope cl pm cv ctv) ⟨[], []⟩ = pure [])
    (hbody : ∀ (A : Around) (outer : List Env) (s : Shared) (H : Hp) (E : XK) (f c : Addr), Room k (A.deeper (LamX.lamEnv X scope s.heap.objs.size f c)) → PE (LmN.lamC X A outer s H E scope f c) body (t E)) : PE X (.Lambda params body scope pos) (tKeep T X k t) := by
  refine ⟨fun pins s σ H Q I h => ?_⟩
  obtain ⟨hT, h⟩ := h
  exact lam_keep I TB hcode hm hu hT hdef (L.has I.ok) fun f d H1 s' J e T1 nf h1 h2 => ⟨.ref f, H1, J, rfl, h H1 f e T1 nf ⟨_, act_plain L hbind hbody, fun _ _ _ z m => z.mv m, d, h2, h1⟩⟩
theorem pe_keepD {X : Cx} {T : List (Addr × Str)} {c P : Addr} {n : Int} {x : Str} {e0 : Expr} {params : Arguments} {body : Expr} {scope : Scope} {pos : Pos} {k : Nat} {t : XK → TE} (TB : LamX.TabB X.base X.mg c P) (hcode : X.env.code = .ref c) (hm : (P, X.env.qual ++ "<lambda>") ∈ T) (hu : ∀ p ∈ T, p.1 = P → p.2 = X.env.qual ++ "<lambda>")
    (L : LmN.LamD X.N x X.env.scope scope) (hd : params.defaults = [e0]) (hk0 : params.kw_defaults = []) (he : PE X e0 (tC (.int n))) (hbind : LmN.DBind params body scope x)
    (hbody : ∀ (A : Around) (outer : List Env) (s : Shared) (H : Hp) (E : XK) (f c : Addr), Room k (A.deeper (LamX.lamEnv X scope s.heap.objs.size f c)) → PE (LmN.lamC X A outer s H E scope f c) body (t E)) : PE X (.Lambda params body scope pos) (tKeep T X k t) := by
  refine ⟨fun pins s σ H Q I h => ?_⟩
  obtain ⟨hT, h⟩ := h
  exact lam_keepD I TB hcode hm hu hT hd hk0 he (L.has I.ok) (fun f d p H1 s' J e T1 nf hp h1 h2 => ⟨.ref f, H1, J, rfl, h H1 f e T1 nf ⟨_, act_dflt (n := n) L hbind hbody, fun _ _ _ z m => z.mv m, d, p, h2, hp, h1⟩⟩) fun _ _ z => z
/-! ### handed to a def that catches, or to one that hands it on -/
def GivesF (X : Cx) (Ng : List Str) (x : Str) (sg : Scope) (g : Addr) (cdg : Value) (bg : List Stmt) (a : Str) (k : Nat) (TT : (XK → Hp → VK → Prop) → Hp → VK → Prop) : Prop :=
  ∀ (f : Addr) (G : Hp → Prop) (s : Shared) (H : Hp) (Q : VK) (tl : XK → Hp → VK → Prop), (∀ H1 H2 : Hp, G H1 → (∀ b o, H1 b = some o → H2 b = some o) → G H2) → Room k (X.A.deeper (envOfC x sg s.heap.objs.size g cdg)) →
    (∀ (W : WX) (pn : List (Addr × Obj)) (xe : Value → Shared → Prop) (p1 p2 : Pos), L2N.Takes ((LmN.gCx X L2.CX0 L2.E0 Ng x sg g cdg s H).tr pn xe) W →
      PE ((LmN.gCx X L2.CX0 L2.E0 Ng x sg g cdg s H).tr pn xe) (.Call (.Name a p1) [] [] p2) (tActF W f G 0 tl)) → G H → TT tl H Q →
    ∃ t, PSs (LmN.gCx X L2.CX0 L2.E0 Ng x sg g cdg s H).nox bg t ∧ t { nx := fun _ H' => Q .non H', rt := Q } (L2.start Ng [.ref f]) H
theorem gives_of {X : Cx} {Ng : List Str} {x : Str} {sg : Scope} {g : Addr} {cdg : Value} {bg : List Stmt} {a q : Str} {k : Nat} {TT : (XK → Hp → VK → Prop) → Hp → VK → Prop} (h : GivesF X Ng x sg g cdg bg a k TT) : LmN.Gives X Ng x sg g cdg bg a q k TT :=
  fun f c s H Q tl hr act hc ht => h f (fun H' => H' c = some (LamX.CodeO c q)) s H Q tl (fun _ _ e s => s _ _ e) hr act hc ht
def tPassF (f : Addr) (G : Hp → Prop) (TT : (XK → Hp → VK → Prop) → Hp → VK → Prop) (tl : XK → Hp → VK → Prop) : TE := fun σ H Q => σ[0]? = some (some (.ref f)) ∧ G H ∧ TT tl H Q
def HandsF (X : Cx) (Ng : List Str) (x : Str) (sg : Scope) (g : Addr) (cdg : Value) (bg : List Stmt) (a x2 : Str) (TT2 TT : (XK → Hp → VK → Prop) → Hp → VK → Prop) : Prop :=
  ∀ (f : Addr) (G : Hp → Prop) (s : Shared) (H : Hp) (Q : VK) (tl : XK → Hp → VK → Prop), (∀ H1 H2 : Hp, G H1 → (∀ b o, H1 b = some o → H2 b = some o) → G H2) →
    (∀ (p1 p2 p3 : Pos), PE (LmN.gCx X L2.CX0 L2.E0 Ng x sg g cdg s H).nox (.Call (.Name x2 p1) [.Name a p2] [] p3) (tPassF f G TT2 tl)) → G H → TT tl H Q →
    ∃ t, PSs (LmN.gCx X L2.CX0 L2.E0 Ng x sg g cdg s H).nox bg t ∧ t { nx := fun _ H' => Q .non H', rt := Q } (L2.start Ng [.ref f]) H
theorem hands_of {X : Cx} {Ng : List Str} {x : Str} {sg : Scope} {g : Addr} {cdg : Value} {bg : List Stmt} {a x2 q : Str} {TT2 TT : (XK → Hp → VK → Prop) → Hp → VK → Prop} (h : HandsF X Ng x sg g cdg bg a x2 TT2 TT) : LmN.Hands X Ng x sg g cdg bg a x2 q TT2 TT :=
  fun f c s H Q tl act hc ht => h f (fun H' => H' c = some (LamX.CodeO c q)) s H Q tl (fun _ _ e s => s _ _ e) act hc ht
def tErrF (te : TE) (TT : (XK → Hp → VK → Prop) → Hp → VK → Prop) (X : Cx) (k : Nat) (σ0 : L2.St) : TE := fun σ H Q => te σ H fun v H1 => ∃ f t, v = .ref f ∧ KeptAs X k t f H1 ∧ TT (fun E HZ Q' => t E σ0 HZ Q') H1 Q
theorem pe_errF {X : Cx} {pins0 : List (Addr × Obj)} {σ0 : L2.St} {H0 : Hp} {s0 : Shared} {scp : Scope} {en : Env} {fz : List Addr} {TT TT2 : (XK → Hp → VK → Prop) → Hp → VK → Prop} {x a x2 a2 : Str} {g g2 : Addr} {k : Nat} {st st2 : Stmt} {fd fd2 : FuncData} {Ng Ng2 : List Str} {e : Expr} {te : TE} {p pos : Pos}
    (I0 : Inv X pins0 σ0 H0 s0) (hfz : ∀ b ∈ fz, FpOk X pins0 H0 b)
    (hg : Gl (X.blk s0 H0 scp en fz) x) (hm : X.mg x = some (.ref g)) (F : L2.Fun X.K x x st g fd) (hb : L2.Binds X.K fd [a] []) (Sg : FnScope Ng [a] (defScope st)) (hNg : Ng[0]? = some a) (hva : Vis (defScope st) a)
    (hg2 : (defScope st).names.lookup x2 = some .globalImplicit) (hm2 : X.mg x2 = some (.ref g2)) (F2 : L2.Fun X.K x2 x2 st2 g2 fd2) (hb2 : L2.Binds X.K fd2 [a2] []) (Sg2 : FnScope Ng2 [a2] (defScope st2)) (hNg2 : Ng2[0]? = some a2) (hva2 : Vis (defScope st2) a2)
    (hG2 : ∀ (Y : Cx) (cdv : Value), Y.K = X.K → Y.mg = X.mg → GivesF Y Ng2 x2 (defScope st2) g2 cdv (defBody st2) a2 (k + 1) TT2)
    (hG : ∀ cdv : Value, HandsF X Ng x (defScope st) g cdv (defBody st) a x2 TT2 TT) (hr : Room (k + 3) X.A) (he : PE (X.blk s0 H0 scp en fz) e te)
    (hpl : starEach [e] (X.blk s0 H0 scp en fz).env = (false, eval e (X.blk s0 H0 scp en fz).env) :: starEach [] (X.blk s0 H0 scp en fz).env := by rfl)
    (hdb : (x == ("__debug__" : Str)) = false := by decide) (hd : (a == ("__debug__" : Str)) = false := by decide) (hcd : (a == ("__classdict__" : Str)) = false := by decide)
    (hdb2 : (x2 == ("__debug__" : Str)) = false := by decide) (hd2 : (a2 == ("__debug__" : Str)) = false := by decide) (hcd2 : (a2 == ("__classdict__" : Str)) = false := by decide) :
    PE (X.blk s0 H0 scp en fz) (.Call (.Name x p) [e] [] pos) (tErrF te TT X k σ0) := by
  obtain ⟨oc, od, kV, doc, pm, an, cdv, ct, osl, rfl, lk, hcdv⟩ := F.ex
  obtain ⟨oc2, od2, kV2, doc2, pm2, an2, cdv2, ct2, osl2, rfl, lk2, hcdv2⟩ := F2.ex
  refine ⟨fun pins s σ H Q I h => ?_⟩
  refine wpAny_Call_Name_kw (ld_glob I hg hm (callWith_K (h₀ := X.base) I.ok.mod.kin F.kp ?_ (by rw [hpl]) (by rfl)) hdb)
  rw [hpl]
  refine Calls.spliced_cons (thn (he.run pins s σ H _ I h) fun u s1 hu => Calls.spliced_nil ?_)
  obtain ⟨v, H1, I1, r1, f, t0, ev, ⟨G, hact, hst, hGf⟩, hT⟩ := hu
  subst ev
  obtain rfl : u = Value.ref f := r1
  refine ⟨I1.kIn, ?_⟩
  have J : Inv X pins0 σ0 H1 s1 := I0.call' (ch := fz) I1.os I1.base I1.hok I1.bare fun b hb => by
    obtain ⟨_, a2, a3, a4, a5, a6⟩ := hfz b hb
    exact ⟨a4, a2, a5, a6⟩
  have stab : ∀ H1 H2 : Hp, G f H1 → (∀ b o, H1 b = some o → H2 b = some o) → G f H2 := fun H1 H2 g m => hst _ _ _ g fun b o _ _ e => m b o e
  have rc : codeAny (model X.prog X.w) X.A (.call (.ref g) ⟨[.ref f], []⟩) (CR L2.CX0 X.stack X.prog X.w H1 s1 Q L2.E0) s1 := by
    refine LamX.run_ofS (N := Ng) (ps := [a]) (us := [.ref f]) (vs := [.ref f]) lk hcdv Sg hr J.env0 (hb s1 [.ref f] J.kIn rfl) (.cons rfl .nil) rfl fun hr2 => ?_
    have hp : ∀ (p1 p2 p3 : Pos), PE (LmN.gCx X L2.CX0 L2.E0 Ng x (defScope st) g cdv s1 H1).nox (.Call (.Name x2 p1) [.Name a p2] [] p3) (tPassF f (G f) TT2 (fun E H' Q' => t0 E σ0 H' Q')) := by
      intro p1 p2 p3
      refine ⟨fun pinsY sY σY HY QY IY hy => ?_⟩
      obtain ⟨hs, hGY, hTT⟩ := hy
      refine wpAny_Call_Name_kw (ld_glob IY (show Gl _ x2 from hg2) hm2 (callWith_K (h₀ := X.base) IY.ok.mod.kin F2.kp ?_ (by rfl) (by rfl)) hdb2)
      refine Calls.spliced_cons (thn ((pe_var (pos := p2) (i := 0) hNg hva hd hcd).run pinsY sY σY HY (fun v H1 => v = .ref f ∧ H1 = HY) IY ⟨.ref f, hs, rfl, rfl⟩) fun u s3 hu => Calls.spliced_nil ?_)
      obtain ⟨v, H3, I3, r3, ev, eH⟩ := hu
      subst ev eH
      obtain rfl : u = Value.ref f := r3
      refine ⟨I3.kIn, ?_⟩
      have rc2 : codeAny (model X.prog X.w) (X.A.deeper (envOfC x (defScope st) s1.heap.objs.size g cdv)) (.call (.ref g2) ⟨[.ref f], []⟩) (CR L2.CX0 (envOfC x (defScope st) s1.heap.objs.size g cdv :: X.stack) X.prog X.w H3 s3 QY L2.E0) s3 := by
        refine LamX.run_ofS (N := Ng2) (ps := [a2]) (us := [.ref f]) (vs := [.ref f]) lk2 hcdv2 Sg2 hr2 I3.env0 (hb2 s3 [.ref f] I3.kIn rfl) (.cons rfl .nil) rfl fun hr3 => ?_
        have un3 : Un (frs X.stack) [] H1 H3 s1.heap s3.heap := I3.base
        have hun : ∀ (H' : Hp) (h' : Heap), Un (frs (LmN.gCx X L2.CX0 L2.E0 Ng x (defScope st) g cdv s1 H1).stack) [] H3 H' s3.heap h' → Un (frs X.stack) [] H1 H' s1.heap h' := fun H' h' u =>
          LmN.un_more (x := s1.heap.objs.size) (fs := frs X.stack) un3 (show Un (s1.heap.objs.size :: frs X.stack) [] H3 H' s3.heap h' from u) (fun o z => absurd (Heap.lt_size z) (Nat.lt_irrefl _))
        have hr3' : Room (k + 1) ((LmN.gCx X L2.CX0 L2.E0 Ng x (defScope st) g cdv s1 H1).A.deeper (envOfC x2 (defScope st2) s3.heap.objs.size g2 cdv2)) := hr3
        obtain ⟨t2, ht2, hq2⟩ := hG2 (LmN.gCx X L2.CX0 L2.E0 Ng x (defScope st) g cdv s1 H1) cdv2 rfl rfl f (G f) s3 H3 QY (fun E H' Q' => t0 E σ0 H' Q') stab hr3'
          (fun W pn xe p1 p2 tk => hact J hun tk hr3' hNg2 hva2 hd2 hcd2) hGY hTT
        exact ⟨t2, ht2.nox, hq2⟩
      refine wpAny_call (codeAny_mono rc2 fun r s4 hq => ?_)
      cases r with
      | error e => exact (show False from hq).elim
      | ok fl =>
        cases fl with
        | ret u => exact I3.after hq
        | next => exact False.elim hq
        | brk => exact False.elim hq
        | cont => exact False.elim hq
    obtain ⟨t2, ht2, hq2⟩ := hG cdv f (G f) s1 H1 Q (fun E H' Q' => t0 E σ0 H' Q') stab hp hGf hT
    exact ⟨t2, ht2.nox, hq2⟩
  refine wpAny_call (codeAny_mono rc fun r s2 hq => ?_)
  cases r with
  | error e => exact (show False from hq).elim
  | ok fl =>
    cases fl with
    | ret u => exact I1.after hq
    | next => exact False.elim hq
    | brk => exact False.elim hq
    | cont => exact False.elim hq
end LmS

/-! own: the end of a law some of whose helper defs hold lambdas -/
namespace LmH
open PySem PySem.Spec PyProof.Rows L2 LamX
/-- the tables of all defs in the list are empty -/
def Owns (K : PySem.W.Frag) (mg : Str → Option Value) (h : Heap) (xs : List Str) : Prop := ∀ x ∈ xs, ∀ f, mg x = some (.ref f) → OwnTab K f h
theorem walk_ofOwns {l : PySem.W.OpenLaw} {n k : Nat} {q : Program} {loose : List Str} {XP : (Str → Option Value) → Heap → Prop} {YP : World → Heap → Prop} {d : DefRec} {K : Params → PySem.W.Frag} {CX : World → CXT} {x : Str} {xs : List Str}
    (hn : l.most = some n) (hn2 : n ≤ sizeLine) (hdf : d.params.defaults = []) (hr : Room k callerA) (hrec : (xs.all fun y => (recsOf q).any fun e => e.name == y) = true) (hY : ∀ (w : World) (h : Heap), YP w h → (K w.params).In h)
    (F : ∀ (w : World) (mg : Str → Option Value) (fa : Addr) (h : Heap), YP w h → (K w.params).In h → h.Ns mainGlobals mg → mg d.name = some (.ref fa) → Owns (K w.params) mg h xs → LawAtS l w (K w.params) (CX w) k n x mg fa h)
    (hCX : ∀ (w : World) (H : Hp) (s : Shared) (e : Value) (s' : Shared), CX w [] H s (fun _ _ _ => False) e s' → False) :
    PySem.W.WalkO q loose XP YP l.row.toRowW d [] (fun f vs => PySem.call f vs) := by
  refine Att.attach_callB hn hdf fun w s₀ s₁ mg mb fa o pm cd doc a vs ns G Y ho hd hcd hmg hobj hints hlen hbits hg => ?_
  have KX := hY w _ Y
  have tabs : Owns (K w.params) mg s₁.heap xs := fun y hy f hf c P o1 fd1 e dd vs1 sl k1 k2 k3 k4 k5 => by
    obtain ⟨dL, hm, hn1⟩ := List.any_eq_true.mp (List.all_eq_true.mp hrec y hy)
    obtain ⟨a', o', fd', c', P', h1, h2, h3, h4, _, ⟨oc, vc, e1, _, e3, e4⟩, hP⟩ := G.T.tab dL hm
    rw [beq_iff_eq.mp hn1, hf] at h1
    cases h1
    rw [KX _ _ k1] at h2
    cases h2
    rw [k2] at h3
    cases h3
    rw [k3] at h4
    cases h4
    rw [KX _ _ k4] at e1
    cases e1
    cases e3
    rw [k5] at e4
    cases e4
    exact hP
  obtain ⟨fd, cs, sp, hT, nT, C, hb, hsp, hF⟩ := F w mg fa _ Y KX G.T.g hmg tabs
  exact law_callTs KX G.T.g G.T.b G.T.builtins G.T.nolimit hg hT nT C G.T.bmain hobj hints (Nat.le_trans hlen hn2) hr hF hb (fun H hH hS => hsp H a ns hlen hbits hH hS) fun H e s' => hCX w H s₁ e s'
end LmH

/-! own: two lists of the same objects, compared -/
namespace SmE
open PySem PySem.Spec PyProof.Rows L2
def One (v : V) : Prop := flatB v = true ∨ ∃ c, v = .ref c
theorem eq_one {A : Around} {s : Shared} {v : V} {u u' : Value} (r : RelV v u) (r' : RelV v u') (f : One v) : SeqAt.EqAt A s u u' true := by
  rcases f with f | ⟨c, rfl⟩
  · exact eqAt_same r r' f
  · cases (show u = Value.ref c from r)
    cases (show u' = Value.ref c from r')
    exact SeqAt.EqAt.same _
theorem vals_at : ∀ {xs : List V} {its its2 : List Value}, Vals xs its → Vals xs its2 → ∀ (j : Nat) (h1 : j < its.length) (h2 : j < its2.length), ∃ v ∈ xs, RelV v its[j] ∧ RelV v its2[j]
  | [], _, _, .nil, _, j, h1, _ => absurd h1 (Nat.not_lt_zero _)
  | x :: xs, _, _, .cons a b, .cons c d, 0, _, _ => ⟨x, List.mem_cons_self, a, c⟩
  | x :: xs, _, _, .cons a b, .cons c d, j + 1, h1, h2 => by
    obtain ⟨v, hv, p, q⟩ := vals_at b d j (by simpa using h1) (by simpa using h2)
    exact ⟨v, List.mem_cons_of_mem _ hv, p, q⟩
theorem vals_len : ∀ {xs : List V} {its : List Value}, Vals xs its → xs.length = its.length
  | [], _, .nil => rfl
  | _ :: _, _, .cons _ b => by rw [List.length_cons, List.length_cons, vals_len b]
section
variable {X : Cx}
def rNeSame (K : PySem.W.Frag) : R2 := fun x y H Q => ∃ (a b : Addr) (xs : List V), x = .ref a ∧ y = .ref b ∧ SqL K H a xs ∧ SqL K H b xs ∧ (∀ z ∈ xs, One z) ∧ Q (.bl false) H
theorem op_neSame (hu : X.A.units < cLine) : OpR X (compareOp .NotEq) (rNeSame X.K) := by
  intro pins s σ H x y v u Q I rx ry h
  obtain ⟨a, b, xs, rfl, rfl, ha, hb, one, q⟩ := h
  cases rx
  cases ry
  obtain ⟨its, rv, l1, _⟩ := I.list ha
  obtain ⟨its2, rv2, l2, _⟩ := I.list hb
  have l1' : s.heap.IsList a its.toArray := by obtain ⟨o, n, ho, hc, _, hd⟩ := l1; exact ⟨o, ho, hc, n, hd⟩
  have l2' : s.heap.IsList b its2.toArray := by obtain ⟨o, n, ho, hc, _, hd⟩ := l2; exact ⟨o, ho, hc, n, hd⟩
  clear l1 l2
  have le : its.toArray.size = its2.toArray.size := by
    show its.length = its2.length
    rw [← vals_len rv, ← vals_len rv2]
  have key := SeqAt.RcNeAt.lists l1' l2' le hu (e := fun _ => true) (fun j h1 h2 => by
    obtain ⟨v, hv, p, q⟩ := vals_at rv rv2 j h1 h2
    exact eq_one (by simpa using p) (by simpa using q) (one v hv)) X.prog X.w
  rw [show ((List.range its.toArray.size).all fun _ => true) = true by simp] at key
  exact key _ _ ⟨.bl _, H, I, rfl, q⟩
end
/-! the same data, at any depth: what is the same object, or flat, or a list or tuple of such -/
def SqEq (K : PySem.W.Frag) (H : Hp) (R : V → V → Prop) (x y : V) : Prop := ∃ (a b : Addr) (xs ys : List V), x = .ref a ∧ y = .ref b ∧ ((SqL K H a xs ∧ SqL K H b ys) ∨ (SqT K H a xs ∧ SqT K H b ys)) ∧ xs.length = ys.length ∧ ∀ (i : Nat) u v, xs[i]? = some u → ys[i]? = some v → R u v
def Eqg (K : PySem.W.Frag) (H : Hp) : Nat → V → V → Prop
  | 0, x, y => x = y ∧ One x
  | n + 1, x, y => (x = y ∧ One x) ∨ SqEq K H (Eqg K H n) x y
theorem Eqg.self {K : PySem.W.Frag} {H : Hp} {n : Nat} {x : V} (h : One x) : Eqg K H n x x := by
  cases n with
  | zero => exact ⟨rfl, h⟩
  | succ n => exact .inl ⟨rfl, h⟩
theorem SqEq.mono {K : PySem.W.Frag} {H : Hp} {R S : V → V → Prop} (k : ∀ u v, R u v → S u v) {x y : V} (h : SqEq K H R x y) : SqEq K H S x y := by
  obtain ⟨a, b, xs, ys, e1, e2, h, l, f⟩ := h
  exact ⟨a, b, xs, ys, e1, e2, h, l, fun i u v hu hv => k _ _ (f i u v hu hv)⟩
theorem Eqg.up {K : PySem.W.Frag} {H : Hp} : ∀ {n : Nat} {x y : V}, Eqg K H n x y → Eqg K H (n + 1) x y
  | 0, _, _, h => .inl h
  | n + 1, _, _, .inl h => .inl h
  | n + 1, _, _, .inr h => .inr (h.mono fun _ _ z => z.up)
theorem Eqg.le {K : PySem.W.Frag} {H : Hp} {n m : Nat} (l : n ≤ m) {x y : V} (h : Eqg K H n x y) : Eqg K H m x y := by
  induction l with
  | refl => exact h
  | step _ ih => exact ih.up
theorem vals_two : ∀ {xs ys : List V} {its its2 : List Value}, Vals xs its → Vals ys its2 → ∀ (j : Nat) (h1 : j < its.length) (h2 : j < its2.length), ∃ u v, xs[j]? = some u ∧ ys[j]? = some v ∧ RelV u its[j] ∧ RelV v its2[j]
  | [], _, _, _, .nil, _, j, h1, _ => absurd h1 (Nat.not_lt_zero _)
  | _, [], _, _, _, .nil, j, _, h2 => absurd h2 (Nat.not_lt_zero _)
  | x :: xs, y :: ys, _, _, .cons a b, .cons c d, 0, _, _ => ⟨x, y, rfl, rfl, a, c⟩
  | x :: xs, y :: ys, _, _, .cons a b, .cons c d, j + 1, h1, h2 => by
    obtain ⟨u, v, e1, e2, p, q⟩ := vals_two b d j (by simpa using h1) (by simpa using h2)
    exact ⟨u, v, by simpa using e1, by simpa using e2, by simpa using p, by simpa using q⟩
theorem all_true (n : Nat) : ((List.range n).all fun _ => true) = true := by simp
section
variable {X : Cx} {pins : List (Addr × Obj)} {σ : L2.St} {H : Hp} {s : Shared}
theorem rc_g (I : Inv X pins σ H s) {R : V → V → Prop} {A : Around} (hu : A.units < cLine) (hR : ∀ x y v u, R x y → RelV x v → RelV y u → SeqAt.EqAt A.in1 s v u true) {x y : V} {v u : Value} (h : SqEq X.K H R x y) (rx : RelV x v) (ry : RelV y u) : SeqAt.RcAt A s v u true ∧ SeqAt.RcNeAt A s v u false := by
  obtain ⟨a, b, xs, ys, rfl, rfl, hs, hl, hk⟩ := h
  cases (show v = Value.ref a from rx)
  cases (show u = Value.ref b from ry)
  rcases hs with ⟨ha, hb⟩ | ⟨ha, hb⟩
  · obtain ⟨its, rv, l1, _⟩ := I.list ha
    obtain ⟨its2, rv2, l2, _⟩ := I.list hb
    have l1' : s.heap.IsList a its.toArray := by obtain ⟨o, n, ho, hc, _, hd⟩ := l1; exact ⟨o, ho, hc, n, hd⟩
    have l2' : s.heap.IsList b its2.toArray := by obtain ⟨o, n, ho, hc, _, hd⟩ := l2; exact ⟨o, ho, hc, n, hd⟩
    have le : its.toArray.size = its2.toArray.size := by
      show its.length = its2.length
      rw [← vals_len rv, ← vals_len rv2, hl]
    have he : ∀ j (h1 : j < its.toArray.size) (h2 : j < its2.toArray.size), SeqAt.EqAt A.in1 s its.toArray[j] its2.toArray[j] ((fun _ => true) j) := fun j h1 h2 => by
      obtain ⟨p, q, e1, e2, r1, r2⟩ := vals_two rv rv2 j h1 h2
      exact hR p q _ _ (hk j p q e1 e2) (by simpa using r1) (by simpa using r2)
    have k1 := SeqAt.RcAt.lists l1' l2' le hu he
    have k2 := SeqAt.RcNeAt.lists l1' l2' le hu he
    rw [all_true] at k1 k2
    exact ⟨k1, k2⟩
  · obtain ⟨its, rv, l1, _⟩ := I.tuple ha
    obtain ⟨its2, rv2, l2, _⟩ := I.tuple hb
    have le : its.toArray.size = its2.toArray.size := by
      show its.length = its2.length
      rw [← vals_len rv, ← vals_len rv2, hl]
    have he : ∀ j (h1 : j < its.toArray.size) (h2 : j < its2.toArray.size), SeqAt.EqAt A.in1 s its.toArray[j] its2.toArray[j] ((fun _ => true) j) := fun j h1 h2 => by
      obtain ⟨p, q, e1, e2, r1, r2⟩ := vals_two rv rv2 j h1 h2
      exact hR p q _ _ (hk j p q e1 e2) (by simpa using r1) (by simpa using r2)
    have k1 := SeqAt.RcAt.tuples l1 l2 hu he
    have k2 := SeqAt.RcNeAt.tuples l1 l2 hu he
    rw [all_true, le, beq_self_eq_true] at k1 k2
    exact ⟨k1, k2⟩
theorem eq_g (I : Inv X pins σ H s) : ∀ (n : Nat) (A : Around) (x y : V) (v u : Value), A.units + n < cLine → Eqg X.K H n x y → RelV x v → RelV y u → SeqAt.EqAt A s v u true
  | 0, A, x, y, v, u, _, h, rx, ry => by
    obtain ⟨rfl, o⟩ := h
    exact eq_one rx ry o
  | n + 1, A, x, y, v, u, hu, h, rx, ry => by
    rcases h with ⟨rfl, o⟩ | h
    · exact eq_one rx ry o
    have hu' : A.units < cLine := by omega
    have k := rc_g I hu' (fun x y v u hR rx ry => eq_g I n A.in1 x y v u (by show A.units + 1 + n < cLine; omega) hR rx ry) h rx ry
    obtain ⟨a, b, xs, ys, rfl, rfl, _⟩ := h
    cases (show v = Value.ref a from rx)
    cases (show u = Value.ref b from ry)
    by_cases e : a = b
    · subst e
      exact SeqAt.EqAt.same _
    · exact SeqAt.EqAt.of_refs e k.1
end
section
variable {X : Cx}
def rEqG (K : PySem.W.Frag) : R2 := fun x y H Q => SqEq K H (Eqg K H 60) x y ∧ Q (.bl true) H
def rNeG (K : PySem.W.Frag) : R2 := fun x y H Q => SqEq K H (Eqg K H 60) x y ∧ Q (.bl false) H
theorem op_eqG (hu : X.A.units + 64 < cLine) : OpR X (compareOp .Eq) (rEqG X.K) := by
  intro pins s σ H x y v u Q I rx ry h
  exact (rc_g I (A := X.A) (by omega) (fun x y v u hR rx ry => eq_g I 60 X.A.in1 x y v u (by show X.A.units + 1 + 60 < cLine; omega) hR rx ry) h.1 rx ry).1 X.prog X.w _ _ ⟨.bl _, H, I, rfl, h.2⟩
theorem op_neG (hu : X.A.units + 64 < cLine) : OpR X (compareOp .NotEq) (rNeG X.K) := by
  intro pins s σ H x y v u Q I rx ry h
  exact (rc_g I (A := X.A) (by omega) (fun x y v u hR rx ry => eq_g I 60 X.A.in1 x y v u (by show X.A.units + 1 + 60 < cLine; omega) hR rx ry) h.1 rx ry).2 X.prog X.w _ _ ⟨.bl _, H, I, rfl, h.2⟩
end
end SmE

namespace EnT
open PySem PySem.Spec PyProof.Rows L2
/-- a fresh enumerate over the iterator at j -/
abbrev enO (j : Addr) : Obj := { cls := .type "enumerate", data := .fields #[.none, .bool false, .ref j, rawInt 0, .none, .none] }
theorem en_new {v : Value} {oi : Obj} {Hh : Heap → Prop} (B : Begins v oi Hh) :
    Meets (Builtin.«enumerate.__new__» ⟨[.type "enumerate", v], []⟩) (fun _ R s => Hh s.heap ∧ R (.ok (.ret (.ref (s.heap.push oi).objs.size))) { s with heap := (s.heap.push oi).push (enO s.heap.objs.size) }) :=
  .of_wp fun prog w A R s hyp => by
    obtain ⟨mem, gg, dd, tt, sys⟩ := s
    obtain ⟨okv, fin⟩ := hyp
    have hsub := sub_enumerate
    have step : ∀ {A2 : Around} {E2 : Value → Shared → Prop} {Q2 : Value → Shared → Prop}, Q2 (.ref mem.objs.size) ⟨mem.push oi, gg, dd, tt, sys⟩ → wpAny (model prog w) A2 (pyIter v) Q2 E2 ⟨mem, gg, dd, tt, sys⟩ :=
      fun z => B.iter prog w _ _ ⟨mem, gg, dd, tt, sys⟩ _ okv z
    wp_walk using step
    refine wpAny_stack_any fun _ => wpAny_pure ?_
    split
    · rename_i cc _ _ _ _ _
      cases (cc == Value.type "enumerate") <;> (wp_walk using step; exact ⟨_, rfl, fin⟩)
    · (wp_walk using step); exact ⟨_, rfl, fin⟩
theorem en_call {prog : Program} {w : World} {A : Around} {E : Value → Shared → Prop} {s : Shared} {v : Value} {oi : Obj} {Hh : Heap → Prop} {Q : Value → Shared → Prop} (B : Begins v oi Hh) (okv : Hh s.heap)
    (fin : ∀ h2, IsEnum h2 (s.heap.objs.size + 1) s.heap.objs.size 0 .none → h2.get? s.heap.objs.size = some oi → (∀ b o, s.heap.get? b = some o → h2.get? b = some o) → Q (.ref (s.heap.objs.size + 1)) { s with heap := h2 }) :
    wpAny (model prog w) A (call (.type "enumerate") [v]) Q E s := by
  refine callType_new F.called_enumerate (by decide) (F.typeCall_enumerate_1 v) (F.newCall_enumerate_1 v) (fun ob => F.args_object_init_2 ob v) F.entry_enumerate_new (en_new B) ⟨okv, ?_⟩
  have sz1 : (s.heap.push oi).objs.size = s.heap.objs.size + 1 := Heap.size_push ..
  have isE : IsEnum ((s.heap.push oi).push (enO s.heap.objs.size)) (s.heap.objs.size + 1) s.heap.objs.size 0 .none := by
    have g := Heap.get?_push_size (s.heap.push oi) (o := enO s.heap.objs.size) rfl
    rw [sz1] at g
    exact g
  show _ ∧ _
  rw [sz1]
  exact ⟨⟨_, isE, rfl⟩, fin _ isE (Heap.get?_push_of_some _ (Heap.get?_push_size _ B.free)) fun b o z => Heap.get?_push_of_some _ (Heap.get?_push_of_some _ z)⟩
/-- the tuple at t, each item in a new pair -/
def Iet (K : PySem.W.Frag) (t : Addr) : It :=
  ⟨fun i H => ∃ (xs : List V) (x : V), SqT K H t xs ∧ xs[i]? = some x, fun i H v H' => ∃ pr x, v = .ref pr ∧ H pr = none ∧ H' = upd H pr (.tup [.int (i : Nat), x]) ∧ ∀ xs, SqT K H t xs → xs[i]? = some x, fun i H => ∃ xs : List V, SqT K H t xs ∧ xs.length ≤ i⟩
theorem ne_it {h : Heap} {t it : Addr} {i : Nat} {its : Array Value} (a : h.IsTuple t its) (b : h.IsTupleIter it t i) : t ≠ it := fun z => by
  obtain ⟨o1, e1, c1, _⟩ := a
  obtain ⟨o2, e2, c2, _⟩ := b
  rw [z, e2] at e1
  cases e1
  rw [c1] at c2
  exact absurd (Value.type.inj c2) (by decide)
theorem turn_enT {P : Program} {w : World} {K : PySem.W.Frag} {elts : List Expr} {kk : Nat} {tpos : Pos} (t e it : Addr) :
    Turn P w K (.Tuple elts kk tpos) (Iet K t) [e, it] e (fun i h => (∃ old, IsEnum h e it ((i : Nat) : Int) old) ∧ h.IsTupleIter it t i ∧ e ≠ it ∧ e ≠ t) where
  mem := List.mem_cons_self
  obj := fun i h tn b hb => by
    obtain ⟨⟨_, he⟩, ⟨o, ho, _, hd⟩, _⟩ := tn
    rcases List.mem_cons.mp hb with z | z
    · rw [z]; exact ⟨_, he, fun v y => nomatch y⟩
    · rw [List.mem_singleton.mp z]; exact ⟨o, ho, fun v y => by rw [hd] at y; cases y⟩
  keep := fun i h h' tn kp => by
    obtain ⟨⟨old, he⟩, hi, n1, n2⟩ := tn
    exact ⟨⟨old, kp e (by simp) _ he⟩, hi.at fun o z => kp it (by simp) o z, n1, n2⟩
  item := by
    intro X hP hw hK hc i pins s σ H E I hf tn hg
    subst hP hw hK
    obtain ⟨⟨old, he⟩, hit, n1, n2⟩ := tn
    obtain ⟨xs, x, hq, hx⟩ := hg
    obtain ⟨its, rv, tp, _⟩ := I.tuple hq
    obtain ⟨u, hu, ru⟩ := rv.get hx
    have tp' : s.heap.IsTuple t its.toArray := tp
    have le : e < s.heap.objs.size := Heap.lt_size he
    have li : it < s.heap.objs.size := by obtain ⟨_, y, _⟩ := hit; exact Heap.lt_size y
    have hi : i < its.toArray.size := by
      have := (List.getElem?_eq_some_iff.mp hu).1
      simpa using this
    have hd : X.A.in1.handled = none := I.ok.hd hc
    refine wpAny_pyNext_enum_itemD (Draws.tuple hd it t (ne_it tp' hit) its.toArray) he ⟨hit, tp'⟩ hi n1 (fun z => ?_) fun y h2 tk hy ho hst hT hsz kp => ?_
    · rcases List.mem_cons.mp z with z | z
      · exact n1 z
      · exact n2 (List.mem_singleton.mp z)
    have ey : y = u := by
      have : its.toArray[i]? = some y := hy
      rw [List.getElem?_toArray, hu] at this
      exact (Option.some.inj this).symm
    subst ey
    refine ⟨_, rfl, wpAny_letOwnedTupleGo_enum (s := { s with heap := h2, toks := tk + 1 }) ho fun h3 he3 sb => ?_⟩
    have hT3 : h3.get? s.heap.objs.size = some { cls := .type "tuple", data := .seq #[.int i tk, y] } := (sb.2 _ (Nat.ne_of_gt le)).trans hT
    have made : ObjOk X.prog X.w (upd H s.heap.objs.size (.tup [.int (i : Nat), x])) h3 s.heap.objs.size (.tup [.int (i : Nat), x]) := ⟨by show 2 ≤ sizeLine; decide, [.int i tk, y], .cons ⟨_, rfl⟩ (.cons ru .nil), ⟨_, hT3, rfl, _, rfl⟩⟩
    have I3 : Inv X pins σ (upd H s.heap.objs.size (.tup [.int (i : Nat), x])) { s with heap := h3, toks := tk + 1 } :=
      I.turnedNew (ch := [e, it]) (fun b ob nb z => (sb.2 b (fun y => nb (by simp [y]))).trans (kp b ob (fun y => nb (by simp [y])) (fun y => nb (by simp [y])) z)) hf (Nat.le_refl _) made
    refine ⟨.ref s.heap.objs.size, _, I3, rfl, ⟨_, x, rfl, I.hok.fresh (Nat.le_refl _), rfl, fun ys hys => by rw [I.tuple_inj hys hq]; exact hx⟩, ⟨⟨y, ?_⟩, hst.1.at fun o z => (sb.2 it (Ne.symm n1)).trans z, n1, n2⟩, fun b hb => ?_⟩
    · rw [show ((i + 1 : Nat) : Int) = (i : Int) + 1 by omega]; exact he3
    · have lb : b < s.heap.objs.size := by
        rcases List.mem_cons.mp hb with z | z
        · rw [z]; exact le
        · rw [List.mem_singleton.mp z]; exact li
      rw [upd_ne (Nat.ne_of_lt lb)]
      exact (hf b hb).1
  done := by
    intro X hP hw hK hc i pins s σ H E I hf tn hg
    subst hP hw hK
    obtain ⟨⟨old, he⟩, hit, n1, n2⟩ := tn
    obtain ⟨xs, hq, hx⟩ := hg
    obtain ⟨its, rv, tp, _⟩ := I.tuple hq
    have tp' : s.heap.IsTuple t its.toArray := tp
    obtain ⟨f0, f1, f2, f3, f4, f5⟩ := hf it (by simp)
    have hl := rv.length
    have hd : X.A.in1.handled = none := I.ok.hd hc
    have dr := Draws.tuple (prog := X.prog) (w := X.w) hd it t (ne_it tp' hit) its.toArray
    have D2 : Draws X.prog X.w X.A.in1 it [it, t] i (fun _ _ => False) (fun j h => j = i ∧ h.IsTupleIter it t i ∧ h.IsTuple t its.toArray) :=
      { live := fun _ _ st => let ⟨o, ho, _⟩ := st.2.1; ⟨o, ho⟩
        frame := fun _ _ _ st hk => ⟨st.1, st.2.1.at fun o z => hk it (by simp) o z, st.2.2.at fun o z => hk t (by simp) o z⟩
        item := fun j s Q E hj st hQ => absurd st.1 (Nat.ne_of_lt hj)
        done := fun s Q E st hE => wpAny_nextOf_tuple_end hd st.2.1 st.2.2 (by simp; omega) hE }
    exact wpAny_pyNext_enum_endD D2 he ⟨rfl, hit, tp'⟩ fun h' eb => ⟨rfl, I.turned (t' := s.toks) (fun b o nb z => eb b o nb z) f0 f1 f3 f4 f5⟩
  self := fun A i s Q E tn z => let ⟨⟨_, he⟩, _⟩ := tn; wpAny_pyIter_enum he z
def iEnT (K : PySem.W.Frag) (ta : TA) : TI := fun σ H R => ta σ H fun vs H1 => ∃ t xs, vs = [.ref t] ∧ SqT K H1 t xs ∧ R (Iet K t) H1
theorem pi_enumT {X : Cx} {e : Expr} {ta : TA} {p pos tpos : Pos} {elts : List Expr} {kk : Nat} (hg : Gl X "enumerate") (hm : X.mg "enumerate" = none) (ha : PA X [e] ta) (hs : starEach [e] X.env = [(false, eval e X.env)] := by rfl) :
    PI X (.Tuple elts kk tpos) (.Call (.Name "enumerate" p) [e] [] pos) (iEnT X.K ta) := by
  refine ⟨fun pins s σ H R I h => ?_⟩
  refine Call_ (ld_blt I hg hm boot_enumerate (PyProof.Rows.callWith_type1 (thn (ha.run pos pins s σ H _ I h) fun us s1 ⟨vs, H1, I1, r1, q1⟩ => ?_) hs rfl))
  obtain ⟨t, xs, ev, hq, fin⟩ := q1
  subst ev
  cases r1 with
  | cons r rr =>
    cases rr
    cases r
    obtain ⟨its, rv, tp, _⟩ := I1.tuple hq
    have tp' : s1.heap.IsTuple t its.toArray := tp
    obtain ⟨ot, hot, _⟩ := id tp'
    refine en_call (begins_tuple t its.toArray) tp' fun h2 isE hit kp => wpAny_pyIter_enum isE ?_
    refine ⟨s1.heap.objs.size + 1, [s1.heap.objs.size + 1, s1.heap.objs.size], _, _, H1, rfl, I1.kept (t' := s1.toks) kp, turn_enT t (s1.heap.objs.size + 1) s1.heap.objs.size, ⟨⟨.none, isE⟩, ⟨_, hit, rfl, rfl⟩, Nat.succ_ne_self _, fun z => ?_⟩, fun b hb => ?_, fin⟩
    · have lt := Heap.lt_size hot
      rw [← z] at lt
      exact absurd lt (Nat.not_lt.mpr (Nat.le_succ _))
    · have lb : s1.heap.objs.size ≤ b := by
        rcases List.mem_cons.mp hb with z | z
        · rw [z]; exact Nat.le_add_right _ _
        · rw [List.mem_singleton.mp z]; exact Nat.le_refl _
      exact I1.fpOk lb (I1.hok.fresh lb)
theorem pi_or {X : Cx} {tg it : Expr} {w1 w2 : TI} (a : PI X tg it w1) (b : PI X tg it w2) : PI X tg it (fun σ H R => w1 σ H R ∨ w2 σ H R) := ⟨fun pins s σ H R I h => h.elim (a.run pins s σ H R I) (b.run pins s σ H R I)⟩
end EnT

namespace StT
open PySem PySem.Spec PyProof.Rows L2
/-- what is known of a set built of the first i texts -/
def Known (xs : List Str) (i : Nat) (S : Str → Bool) (m : Nat) : Prop := (∀ k, S k = (xs.take i).any (· == k)) ∧ m ≤ i ∧ (m = i → (xs.take i).Nodup)
theorem Known.more {xs : List Str} {i m : Nat} {S : Str → Bool} {x : Str} (h : Known xs i S m) (hx : xs[i]? = some x) : Known xs (i + 1) (fun k => S k || decide (k = x)) (if S x then m else m + 1) := by
  obtain ⟨h1, h2, h3⟩ := h
  have tk : xs.take (i + 1) = xs.take i ++ [x] := by rw [List.take_add_one, hx]; rfl
  refine ⟨fun k => ?_, ?_, fun e => ?_⟩
  · rw [tk, List.any_append, ← h1 k]
    congr 1
    by_cases q : k = x
    · subst q; simp
    · have : (x == k) = false := by simpa [beq_iff_eq] using fun z : x = k => q z.symm
      simp [q, this]
  · split <;> omega
  · cases q : S x with
    | true => rw [q] at e; simp at e; omega
    | false =>
      rw [q] at e
      have em : m = i := by simpa using e
      rw [tk, List.nodup_append]
      refine ⟨h3 em, by simp, fun u hu v hv => ?_⟩
      rw [List.mem_singleton.mp hv]
      intro z
      subst z
      have := h1 u
      rw [q] at this
      have hany : (xs.take i).any (· == u) = true := List.any_eq_true.mpr ⟨u, hu, by simp⟩
      rw [hany] at this
      cases this
section
variable {prog : Program} {w : World} {A : Around} {R : Result → Shared → Prop} {I : Addr} {fp wr : List Addr} {G : Array GenState → Array GenState → Prop} {n : Nat} {P : Nat → Value → Prop} {St : Nat → Shared → Prop}
theorem fill (W : WalksS prog w A.in1 I fp wr G n P St) (S : Addr) (nS : S ∉ fp) (xs : List Str) (hn : xs.length = n) (small : n ≤ 1000) (hv : ∀ i v, P i v → ∃ t, v = .str (xs.getD i Str.empty) t) :
    ∀ (k i : Nat) (s : Shared) (F : Str → Bool) (m : Nat), n - i = k → i ≤ n → St i s → s.heap.SetOf (PySem.strKind prog w) S F m → Known xs i F m →
      (∀ s' F' m', Moved (S :: wr) G s s' → s'.heap.SetOf (PySem.strKind prog w) S F' m' → Known xs n F' m' → R (.ok (.ret .none)) s') → codeAny (model prog w) A (.builtin "set.update.loop" ⟨[.ref S, .ref I], []⟩) R s := by
  have nW : S ∉ wr := fun z => nS (W.sub _ z)
  have up : ∀ b ∈ wr, b ∈ S :: wr := fun b z => List.mem_cons_of_mem _ z
  intro k
  induction k with
  | zero =>
    intro i s F m hk hi hst hS hK fin
    obtain rfl : i = n := by omega
    refine codeAny_builtin PyProof.Rows.F.entry_set_update_loop ?_
    rw [Around.under_plainId PyProof.Rows.F.plain_set_update_loop _]
    refine wpAny_bind (W.done s _ _ hst fun s1 mv => wpAny_pure (fin s1 F m (mv.mono up) ?_ hK))
    obtain ⟨o, es, ep, tb, ho, more⟩ := hS; exact ⟨o, es, ep, tb, mv.heap S _ nW ho, more⟩
  | succ k ih =>
    intro i s F m hk hi hst hS hK fin
    have lt : i < n := by omega
    refine codeAny_builtin PyProof.Rows.F.entry_set_update_loop ?_
    rw [Around.under_plainId PyProof.Rows.F.plain_set_update_loop _]
    refine wpAny_bind (W.item i s _ _ lt hst fun v s1 hP st1 mv => ?_)
    obtain ⟨tt, rfl⟩ := hv i v hP
    have S1 : s1.heap.SetOf (PySem.strKind prog w) S F m := by obtain ⟨o, es, ep, tb, ho, more⟩ := hS; exact ⟨o, es, ep, tb, mv.heap S _ nW ho, more⟩
    have mi := hK.2.1
    refine wpAny_bind (wpAny_holding ?_)
    unfold setAdd
    refine wpAny_holding (wpAny_bind ((PySem.strKind prog w).pyHash (k := xs.getD i Str.empty) (strKind_is _ _ _ _) ?_))
    refine wpAny_setAddHashed_of (knd := PySem.strKind prog w) (s := { s1 with toks := s1.toks + 1 }) (strKind_is _ _ _ _) rfl S1 (by unfold scanBound; omega) fun h2 sb S2 => ?_
    have hx : xs[i]? = some (xs.getD i Str.empty) := by
      have l : i < xs.length := by omega
      rw [List.getElem?_eq_getElem l, List.getD_eq_getElem?_getD, List.getElem?_eq_getElem l]; rfl
    have away : ∀ b ∈ fp, b ≠ S := fun b hb z => nS (by rw [← z]; exact hb)
    refine wpAny_pure ⟨plainId_quiet PyProof.Rows.F.plain_set_update_loop _, ih (i + 1) _ _ _ (by omega) lt (W.frame _ s1 _ _ st1 (Nat.le_succ _) fun b hb o z => (sb.2 b (away b hb)).trans z) S2 (hK.more hx) fun s3 F3 m3 mv3 S3 K3 => ?_⟩
    exact fin s3 F3 m3 (Moved.trans W.gtrans ((mv.mono up).then_heap (Nat.le_succ _) fun b o hb z => (sb.2 b (fun y : b = S => hb (by rw [y]; exact List.mem_cons_self))).trans z) mv3) S3 K3
end
section
variable {prog : Program} {w : World} {A : Around} {E : Value → Shared → Prop} {s : Shared}
abbrev set0 (led : Bool) : Obj := { cls := .type "set", dict := none, data := .set #[] 0 (.fresh 0 0 led) }
set_option maxHeartbeats 3200000 in
theorem set_texts {l : Addr} {items : Array Value} {xs : List Str} {Q : Value → Shared → Prop} (hh : A.handled = none) (hl : s.heap.IsList l items) (hi : PyProof.Rows.StrsAre items.toList xs) (small : xs.length ≤ 1000)
    (fin : ∀ (h2 : Heap) (tk : Nat) (F : Str → Bool) (m : Nat), h2.SetOf (PySem.strKind prog w) s.heap.objs.size F m → Known xs xs.length F m → (∀ b o, b < s.heap.objs.size → s.heap.get? b = some o → h2.get? b = some o) → Q (.ref s.heap.objs.size) { s with heap := h2, toks := tk }) :
    wpAny (model prog w) A (call (.type "set") [.ref l]) Q E s := by
  obtain ⟨c, tl, hmro⟩ := PySem.F.called_set.mro
  have hmade := PySem.F.called_set.made; have hsub := PySem.F.called_set.sub
  refine wpAny_call (codeAny_of_tree ?_)
  show wpAny _ _ (callAny (.type "set") _) _ _ _
  refine wpAny_pure ⟨Code.quiet_builtin _ (by decide +kernel), codeAny_builtin PySem.F.entry_type_call ?_⟩
  rw [Around.under_plain (weight_type_call_type "set" [.ref l] []) rfl]
  have e1 := PySem.F.called_set.notType; have e2 := PySem.F.called_set.canCreate; have e3 := PySem.F.typeCall_set_1 (.ref l)
  repeat (any_goals (first | assumption | wp_step))
  refine codeAny_mono (code_set_new_1 (.ref l) (E := E) (Q₁ := fun ob s1 => ∃ led : Bool, ob = .ref s.heap.objs.size ∧ s1 = { s with heap := s.heap.push (set0 led) }) fun led => ⟨led, rfl, rfl⟩) fun r s1 hr => ?_
  cases r with
  | error e => exact hr
  | ok fl =>
    cases fl with
    | ret ob =>
      obtain ⟨led, rfl, rfl⟩ := hr
      have at0 : (s.heap.push (set0 led)).get? s.heap.objs.size = some (set0 led) := Heap.get?_push_size _ rfl
      have ty : Shared.TypeIs { s with heap := s.heap.push (set0 led) } (.ref s.heap.objs.size) "set" := ⟨_, at0, rfl⟩
      have i1 := PySem.F.called_set.init.lookup; have i2 := PySem.F.called_set.init.bind (.ref s.heap.objs.size)
      repeat (any_goals (first | assumption | wp_step))
      refine codeAny_mono (codeAny_call_builtin (R := wants (fun r s2 => r = .none ∧ ∃ h2 tk F m, s2 = { s with heap := h2, toks := tk } ∧ h2.SetOf (PySem.strKind prog w) s.heap.objs.size F m ∧ Known xs xs.length F m ∧
          (∀ b o, b < s.heap.objs.size → s.heap.get? b = some o → h2.get? b = some o)) E) PySem.F.called_set.init.plain PySem.F.entry_set_init (check_set_init_1 ty ?_)) fun r2 s2 hr2 => ?_
      · obtain ⟨⟨oc, odc, odt, osl⟩, hol, hcl, nl, hdl⟩ := hl
        simp only at hcl hdl
        subst hcl hdl
        have hol1 : (s.heap.push (set0 led)).get? l = some { cls := .type "list", dict := odc, data := .seq items nl, slots := osl } := Heap.get?_push_of_some _ hol
        have z1 := PySem.F.sub_list_set; have z2 := PySem.F.sub_list_frozenset
        have z3 : (Value.type "list" == Value.type "dict") = false := by decide
        have hl1 : (s.heap.push (set0 led)).IsList l items := ⟨_, hol1, rfl, nl, rfl⟩
        unfold Builtin.«set.__init__» noKeywords Builtin.Frozenset.updateFrom
        generalize hPI : pyIter = PI; wp_walk; subst hPI
        refine wpAny_pyIter_list hl1 (wpAny_bind (wpAny_runValue ?_))
        have lS : l < s.heap.objs.size := Heap.lt_size hol
        have hh3 : A.in1.in1.in1.handled = none := by simp [hh]
        have szp : (s.heap.push (set0 led)).objs.size = s.heap.objs.size + 1 := Heap.size_push ..
        have nI : l ≠ (s.heap.push (set0 led)).objs.size := by rw [szp]; exact Nat.ne_of_lt (Nat.lt_succ_of_lt lS)
        have nS : s.heap.objs.size ∉ [(s.heap.push (set0 led)).objs.size, l] := by
          rw [szp]; intro z
          rcases List.mem_cons.mp z with z | z
          · exact absurd z (Nat.ne_of_lt (Nat.lt_succ_self _))
          · exact absurd (List.mem_singleton.mp z) (Nat.ne_of_gt lS)
        have len : xs.length = items.size := by rw [← StrsAre.len_eq hi, Array.length_toList]
        have val : ∀ (i : Nat) (v : Value), items[i]? = some v → ∃ t, v = .str (xs.getD i Str.empty) t := fun i v z => SS.strs_at hi i v (by rw [Array.getElem?_toList]; exact z)
        refine fill ((Walks.list hh3 _ l nI items).toS) s.heap.objs.size nS xs len (by rw [← len]; exact small) val (items.size - 0) 0 _ (fun _ => false) 0 (by omega) (Nat.zero_le _) ⟨⟨_, Heap.get?_push_size _ rfl, rfl, rfl⟩, (hl1.push _)⟩ ?_ ⟨fun _ => rfl, Nat.le_refl _, fun _ => List.nodup_nil⟩ ?_
        · exact (PyProof.Rows.setObjOf_fresh (knd := PySem.strKind prog w) led).setOf (Heap.get?_push_of_some _ at0) (by unfold scanBound; omega)
        · intro s3 F3 m3 mv S3 K3
          obtain ⟨h3, g3, d3, t3, o3⟩ := s3
          obtain rfl : g3 = s.gens := mv.gens
          obtain rfl : d3 = s.drawn := mv.drawn
          obtain rfl : o3 = s.os := mv.os
          refine wpAny_pure (wpAny_pure ⟨rfl, h3, t3, F3, m3, rfl, S3, by rw [len]; exact K3, fun b o hb z => ?_⟩)
          refine mv.heap b o (fun y => ?_) (Heap.get?_push_of_some _ (Heap.get?_push_of_some _ z))
          rcases List.mem_cons.mp y with y | y
          · exact absurd y (Nat.ne_of_lt hb)
          · have y' := List.mem_singleton.mp y
            rw [szp] at y'
            exact absurd y' (Nat.ne_of_lt (Nat.lt_succ_of_lt hb))
      · cases r2 with
        | error e => exact hr2
        | ok fl2 =>
          cases fl2 with
          | ret r =>
            obtain ⟨rfl, h2, tk, F, m, rfl, S2, K2, kp⟩ := hr2
            repeat (any_goals (first | assumption | wp_step))
            exact fin _ _ _ _ S2 K2 kp
          | _ => exact hr2.elim
    | _ => exact hr.elim
end
/-- len(set(xs)) of a list of texts -/
def tLenSetT (K : PySem.W.Frag) (ta : TE) : TE := fun σ H Q => ta σ H fun x H1 => ∃ l, ∃ xs : List Str, x = .ref l ∧ SqL K H1 l (xs.map V.str) ∧ xs.length ≤ 1000 ∧ ∀ m : Nat, m ≤ xs.length → (m = xs.length → xs.Nodup) → Q (.int m) H1
theorem pe_lenSetT {X : Cx} {e : Expr} {ta : TE} {p p2 q pos : Pos} (hc : X.calm = true) (hg : Gl X "len") (hm : X.mg "len" = none) (hg2 : Gl X "set") (hm2 : X.mg "set" = none) (ha : PE X e ta)
    (na : starEach [e] X.env = (false, eval e X.env) :: starEach [] X.env := by rfl) : PE X (.Call (.Name "len" p) [.Call (.Name "set" p2) [e] [] q] [] pos) (tLenSetT X.K ta) := by
  refine ⟨fun pins s σ H Q I h => ?_⟩
  refine Call_ (ld_blt I hg hm boot_len (PyProof.Rows.callWith_builtin1 (PyProof.Rows.args_cons ?_ rfl) rfl rfl))
  refine Call_ (ld_blt I hg2 hm2 boot_set ?_)
  refine PyProof.Rows.callWith_type1 (PyProof.Rows.args_cons (thn (ha.run pins s σ H _ I h) fun v s1 ⟨x, H1, I1, r1, q1⟩ => PyProof.Rows.args_nil ?_) na) na rfl
  obtain ⟨l, xs, rfl, hq, small, q1⟩ := q1
  cases r1
  obtain ⟨its, rv, pl, hz⟩ := I1.list hq
  refine set_texts (I1.ok.hd hc) pl.isList (by simpa using strsAre_of rv) small fun h2 tk F m S2 K2 kp => PyProof.Rows.args_nil ?_
  obtain ⟨o, es, ep, t, ho, hex, hd, _, _, _, hf, hn⟩ := S2
  have I2 : Inv X pins σ H1 { s1 with heap := h2, toks := tk } := I1.kept fun b o z => kp b o (Heap.lt_size z) z
  have k1 := K2.2.1
  refine call_len_set ho hex hd hf (by rw [hn]; omega) ⟨.int m, H1, I2.tok _, ⟨_, by rw [hn]⟩, q1 m k1 fun z => ?_⟩
  have := K2.2.2 z
  rwa [List.take_length] at this
end StT

/-! own: dict(zip(keys, values)) of two lists -/
namespace DzP
open PySem PySem.Spec PyProof.Rows L2
theorem mem4 {c z TO i1 i2 : Addr} (h : c ∈ [z, TO, i1, i2]) : c = z ∨ c = TO ∨ c = i1 ∨ c = i2 := by simpa using h
theorem kv_zip : ∀ {ks : List Key} {ys : List V} {us ws : List Value}, Vals (ks.map kV) us → Vals ys ws → KV (ks.zip ys) (ks.zip ws)
  | [], _, _, _, _, _ => .nil
  | _ :: _, [], _, _, _, h => by cases h; exact .nil
  | k :: ks, y :: ys, us, ws, h1, h2 => by
    cases h1 with
    | cons a t1 =>
      cases h2 with
      | cons b t2 => exact .cons ⟨rfl, b⟩ (kv_zip t1 t2)
theorem zip_have {P : Program} {w : World} {ks : List Key} {us ws : List Value} (h : Vals (ks.map kV) us) : PairsHave (mixKind P w) (min us.length ws.length) (fun i k v => us[i]? = some k ∧ ws[i]? = some v) (ks.zip ws) := by
  have l := h.length
  rw [List.length_map] at l
  refine ⟨by rw [List.length_zip, l], fun i key v ⟨a, b⟩ => ?_⟩
  have il : i < ks.length := by have := (List.getElem?_eq_some_iff.mp a).1; omega
  have hk : ks[i]? = some ks[i] := List.getElem?_eq_getElem il
  generalize ks[i] = k at hk
  refine ⟨k, ?_, ?_⟩
  · rw [List.getElem?_zip_eq_some]
    exact ⟨hk, b⟩
  · obtain ⟨u, hu, ru⟩ := h.get (i := i) (x := kV k) (by rw [List.getElem?_map, hk]; rfl)
    rw [a] at hu
    cases hu
    exact kV_is ru
def tDZ (K : PySem.W.Frag) (ta : TA) : TE := fun σ H Q => ta σ H fun vs H1 => ∃ (a b : Addr) (ks : List Key) (ys : List V), vs = [.ref a, .ref b] ∧ SqL K H1 a (ks.map kV) ∧ SqL K H1 b ys ∧ ∀ p, H1 p = none → Q (.ref p) (upd H1 p (.dK (mergeK [] (ks.zip ys))))
theorem pe_dz {X : Cx} {e e2 : Expr} {ta : TA} {p q pos pos2 : Pos} (hc : X.calm = true) (hg : Gl X "dict") (hm : X.mg "dict" = none) (hgz : Gl X "zip") (hmz : X.mg "zip" = none) (ha : PA X [e, e2] ta)
    (hs : starEach [e, e2] X.env = (false, eval e X.env) :: starEach [e2] X.env := by rfl) (hpl : (backTo pos2 (starEach [e2] X.env)).any (·.1) = false := by rfl)
    (hs2 : starEach [Expr.Call (.Name "zip" q) [e, e2] [] pos2] X.env = (false, eval (.Call (.Name "zip" q) [e, e2] [] pos2) X.env) :: starEach [] X.env := by rfl) :
    PE X (.Call (.Name "dict" p) [.Call (.Name "zip" q) [e, e2] [] pos2] [] pos) (tDZ X.K ta) := by
  constructor
  intro pins s σ H Q I h
  refine wpAny_Call_Name_kw (ld_blt I hg hm PyProof.Rows.boot_dict ?_)
  refine PyProof.Rows.callWith_type1 ?_ hs2 rfl
  rw [hs2]
  show wpAny _ _ (spliced ((false, eval (.Call (.Name "zip" q) [e, e2] [] pos2) X.env) :: [])) _ _ s
  refine Calls.spliced_cons ?_
  refine Call_ (ld_blt I hgz hmz PyProof.Rows.boot_zip (PyProof.Rows.callWith_type1 (thn (ha.run pos2 pins s σ H _ I h) fun us s1 ⟨vs, H1, I1, r1, q1⟩ => ?_) hs hpl))
  obtain ⟨a, b, ks, ys, ev, qx, qy, fin⟩ := q1
  subst ev
  cases r1 with
  | cons ra rr =>
    cases rr with
    | cons rb rr =>
      cases rr
      cases ra
      cases rb
      obtain ⟨its, rv, p1, _⟩ := I1.list qx
      obtain ⟨jts, rw2, p2, _⟩ := I1.list qy
      have l1 : s1.heap.IsList a its.toArray := p1.isList
      have l2 : s1.heap.IsList b jts.toArray := p2.isList
      have la : a < s1.heap.objs.size := p1.lt
      have lb : b < s1.heap.objs.size := p2.lt
      have sz1 : its.length ≤ sizeLine := by have := rv.length; omega
      refine zip_begins2 (begins_list a its.toArray) (begins_list b jts.toArray) l1 l2 fun h2 z2 T2 O2 g1 g2 sz2 kp => ?_
      refine Calls.spliced_nil ?_
      have D : ZipApart (s1.heap.objs.size + 4) (s1.heap.objs.size + 2) (s1.heap.objs.size + 3) s1.heap.objs.size (s1.heap.objs.size + 1) a b := by
        generalize s1.heap.objs.size = n at *
        constructor
        all_goals (intro q; have la' : (a : Nat) < n := la; have lb' : (b : Nat) < n := lb; unfold Addr at *; omega)
      have I2 : Inv X pins σ H1 { s1 with heap := h2 } := I1.kept (t' := s1.toks) kp
      refine call_dict_pairs (knd := mixKind X.prog X.w) (kvs := ks.zip jts) (PairArg.zip _ _ _ _ _ a b D its.toArray jts.toArray) (I2.ok.hd hc) ⟨z2, T2, ⟨_, _, O2⟩, ⟨_, g1, rfl, rfl⟩, ⟨_, g2, rfl, rfl⟩, l1.at fun o e => kp _ _ e, l2.at fun o e => kp _ _ e⟩ ?_ ?_ fun h' tk hd' k => ?_
      · have z := zip_have (P := X.prog) (w := X.w) (ws := jts) rv
        simpa using z
      · simp only [List.size_toArray]
        exact Nat.le_trans (Nat.min_le_left _ _) sz1
      · have lt2 : s1.heap.objs.size ≤ h2.objs.size := by rw [sz2]; exact Nat.le_add_right _ _
        have hm : (h2.objs.size == sysModules) = false := beq_eq_false_iff_ne.mpr (Nat.ne_of_gt I2.big)
        have lz : (ks.zip ys).length ≤ sizeLine := by
          have e1 := rv.length
          rw [List.length_zip]
          exact Nat.le_trans (Nat.min_le_left _ _) (by rw [List.length_map] at e1; omega)
        have hlen : (mergeK [] (ks.zip ys)).length ≤ sizeLine := by
          refine Nat.le_trans (length_mergeK (ks.zip ys) []) ?_
          rw [List.length_nil, Nat.zero_add]
          exact lz
        have kk : ∀ c o, s1.heap.get? c = some o → h'.get? c = some o := fun c o e => by
          have lc : c < s1.heap.objs.size := Heap.lt_size e
          refine k c o (fun hc => ?_) (kp c o e)
          have : (c : Nat) < s1.heap.objs.size := lc
          rcases mem4 hc with q | q | q | q <;> (rw [q] at this; unfold Addr at *; omega)
        exact ⟨.ref h2.objs.size, upd H1 h2.objs.size (.dK (mergeK [] (ks.zip ys))), I1.laid (t' := tk) kk lt2 (show ObjOk X.prog X.w _ _ _ (.dK (mergeK [] (ks.zip ys))) from ⟨hlen, hm, merged [] (ks.zip jts), KV.merge (kv_zip rv rw2) .nil, hd'⟩), rfl, fin _ (I1.hok.fresh lt2)⟩
end DzP

/-! own: len, repr, str, bool and ==, != of instances whose class has these itself -/
namespace OwQ
open PySem PySem.Spec PyProof.Rows L2
section
variable {X : Cx} {CX : CXT} {C f : Addr} {fd : FuncData} {ps : List Str} {sp : Sp} {E : XK} {n : Nat}
/-- a def that the machine calls by itself -/
theorem run_sp (F : FnOk X.prog X.w X.K X.mg X.base CX n f fd ps sp) (hb : Binds X.K fd ps []) (hx : Passes CX X E) {A : Around} (sb : Sub X n A) {pins : List (Addr × Obj)} {σ : L2.St} {H : Hp} {s : Shared} (I : Inv X pins σ H s) {vs : List V} {us : List Value} (r : Vals vs us) {Q : VK} (hsp : sp vs H Q E) :
    wpAny (model X.prog X.w) A (call (.ref f) us) (fun v s' => ∃ z H', Inv X pins σ H' s' ∧ RelV z v ∧ Q z H') X.xe s := by
  have e0 : Env0 X.prog X.w X.K X.mg X.base A X.stack s H := by
    have e := I.env0
    exact ⟨by rw [sb.fr]; exact e.frames, e.mod, e.bs, e.bsz, e.funs, e.frf, e.hok, e.bare⟩
  have hl := F.len _ _ _ _ hsp
  have hlu : us.length = ps.length := by rw [← r.length]; exact hl
  refine wpAny_call (codeAny_mono (F.run A X.stack s H ⟨us, []⟩ us vs Q E sb.room e0 (by
    have := hb s us I.kIn (by simpa using hlu)
    simpa using this) r hsp) fun q s' hq => ?_)
  cases q with
  | error e => exact hx pins σ H s e s' I hq
  | ok fl =>
    cases fl with
    | ret w =>
      obtain ⟨z, H', I', rz, q⟩ := I.after hq
      exact ⟨z, H', I', rz, q⟩
    | next => exact False.elim hq
    | brk => exact False.elim hq
    | cont => exact False.elim hq
theorem call_lenO (F : FnOk X.prog X.w X.K X.mg X.base CX n f fd ps sp) (hs : PySem.W.findIn X.K (.ref C) "__len__" = some (some (.ref f))) (hf : PySem.W.isFn X.K (.ref f) = true) (hb : Binds X.K fd ps []) (hx : Passes CX X E) (hr : Room (n + 1) X.A) :
    CallR X (.builtin "len") (fun xs H Q => ∃ a dx fs, xs = [.ref a] ∧ H a = some (.ins C dx fs) ∧ sp [.ref a] H (fun v H' => ∃ k : Int, v = .int k ∧ (0 ≤ k ∧ k < 2 ^ 63) ∧ Q (.int k) H') E) := by
  intro pins s σ H xs us Q I r h
  obtain ⟨a, dx, fs, rfl, ha, h⟩ := h
  obtain ⟨mA, J, _⟩ := ins_get I.hok ha
  obtain ⟨od, J, _⟩ := J.look
  obtain ⟨m, hF⟩ := I.fr
  cases r with
  | cons r1 r2 =>
    cases r1
    cases r2
    refine PySem.W.len_K hF I.ok.mod.kin J hs hf (wpAny_mono (run_sp F hb hx (A := X.A.in1) ⟨hr.in1, rfl⟩ I (vs := [.ref a]) (us := [.ref a]) (.cons (show RelV (.ref a) (.ref a) from rfl) .nil) h) (fun v s' q => ?_) fun _ _ z => z)
    obtain ⟨z, H', I', rz, k, rfl, hk, q⟩ := q
    obtain ⟨t, rfl⟩ := rz
    exact ⟨hk, .int k, H', I'.tok _, ⟨_, rfl⟩, q⟩
theorem call_reprO (F : FnOk X.prog X.w X.K X.mg X.base CX n f fd ps sp) (hs : PySem.W.findIn X.K (.ref C) "__repr__" = some (some (.ref f))) (hf : PySem.W.isFn X.K (.ref f) = true) (hb : Binds X.K fd ps []) (hx : Passes CX X E) (hr : Room (n + 1) X.A) :
    CallR X (.builtin "repr") (fun xs H Q => ∃ a dx fs, xs = [.ref a] ∧ H a = some (.ins C dx fs) ∧ sp [.ref a] H (fun v H' => ∃ k : Str, v = .str k ∧ Q (.str k) H') E) := by
  intro pins s σ H xs us Q I r h
  obtain ⟨a, dx, fs, rfl, ha, h⟩ := h
  obtain ⟨mA, J, _⟩ := ins_get I.hok ha
  obtain ⟨od, J, _⟩ := J.look
  obtain ⟨m, hF⟩ := I.fr
  cases r with
  | cons r1 r2 =>
    cases r1
    cases r2
    refine PySem.W.repr_K hr.in1.units0 hF I.ok.mod.kin J hs hf (wpAny_mono (run_sp F hb hx (A := X.A.in1) ⟨hr.in1, rfl⟩ I (vs := [.ref a]) (us := [.ref a]) (.cons (show RelV (.ref a) (.ref a) from rfl) .nil) h) (fun v s' q => ?_) fun _ _ z => z)
    obtain ⟨z, H', I', rz, k, rfl, q⟩ := q
    obtain ⟨t, rfl⟩ := rz
    exact ⟨.str k, H', I', ⟨_, rfl⟩, q⟩
theorem truthy_len_K {prog : Program} {w : World} {A : Around} {E : Value → Shared → Prop} {s : Shared} {K : PySem.W.Frag} {x C f : Addr} {ox : Obj} {od : Option Obj} {Q : Bool → Shared → Prop} (X₀ : K.In s.heap) (I : PySem.W.InstAt s.heap x ox C od) (hb : PySem.W.findIn K (.ref C) "__bool__" = some none) (hs : PySem.W.findIn K (.ref C) "__len__" = some (some (.ref f))) (hf : PySem.W.isFn K (.ref f) = true)
    (h : wpAny (model prog w) A.in1 (call (.ref f) [.ref x]) (fun v s' => ∃ n u, v = .int n u ∧ (0 ≤ n ∧ n < 2 ^ 63) ∧ ∀ tk, Q (n != 0) { s' with toks := tk }) E s) : wpAny (model prog w) A (truthy (.ref x)) Q E s := by
  unfold truthy
  refine wpAny_bind (m := callSpecial? (.ref x) (Str.ofString "__bool__")) (wpAny_bind (wpAny_bind (I.type.here ((PySem.W.looks_findIn X₀ hb).here (wpAny_pure ?_)))))
  refine wpAny_bind (wpAny_bind (I.type.here ((PySem.W.looks_findIn X₀ hs).here ?_)))
  have key : wpAny (model prog w) A (runValue (.builtin "len" ⟨[.ref x], []⟩)) (fun r s' => ∃ n u, r = .int n u ∧ Q (n != 0) s') E s := by
    refine wpAny_runValue (codeAny_builtin entry_len ?_)
    rw [Around.under_plainId plain_len _]
    unfold Builtin.«len»
    refine wpAny_bind (m := oneArg "len" _) (wpAny_pure ?_)
    refine wpAny_bind (m := callSpecial? (.ref x) (Str.ofString "__len__")) (PySem.W.special_fn X₀ I hs (beq_iff_eq.mp hf) (wpAny_mono h (fun r s' hr => ?_) fun _ _ y => y))
    obtain ⟨n, u, rfl, ⟨h0, h1⟩, hq⟩ := hr
    refine wpAny_bind (wpAny_holding (wpAny_pure ?_))
    refine wpAny_bind (wpAny_letGo ?_)
    show wpAny _ _ (if n < 0 then _ else _) _ _ _
    rw [if_neg (by omega)]
    show wpAny _ _ (if n ≥ 2 ^ 63 then _ else _) _ _ _
    rw [if_neg (by omega)]
    exact wpAny_bind (wpAny_mkInt (wpAny_pure ⟨_, _, rfl, hq _⟩))
  exact wpAny_bind (wpAny_mono key (fun r s' hr => by obtain ⟨n, u, rfl, hq⟩ := hr; exact wpAny_pure hq) fun _ _ e => e)
theorem bool_new_own {prog : Program} {w : World} {x : Addr} : MeetsIn prog w (Builtin.«bool.__new__» ⟨[.type "bool", .ref x], []⟩) (fun A R s => wpAny (model prog w) A.in1 (truthy (.ref x)) (fun b s' => R (.ok (.ret (.bool b))) s') (fun e s' => R (.error e) s') s) :=
  .of_wp fun A R s hs => by
    have f1 := PySem.F.conv_sub_bool
    repeat (any_goals (first | assumption | (with_reducible refine wpAny_mono hs (fun b s' hb => ?_) (fun _ _ z => z)) | wp_step))
    all_goals first | exact ⟨_, rfl, hb⟩ | exact hb | skip
theorem call_boolO (F : FnOk X.prog X.w X.K X.mg X.base CX n f fd ps sp) (hs : PySem.W.findIn X.K (.ref C) "__len__" = some (some (.ref f))) (hf : PySem.W.isFn X.K (.ref f) = true) (h0 : PySem.W.findIn X.K (.ref C) "__bool__" = some none) (hb : Binds X.K fd ps []) (hx : Passes CX X E) (hr : Room (n + 3) X.A) :
    CallR X (.type "bool") (fun xs H Q => ∃ a dx fs, xs = [.ref a] ∧ H a = some (.ins C dx fs) ∧ sp [.ref a] H (fun v H' => ∃ k : Int, v = .int k ∧ (0 ≤ k ∧ k < 2 ^ 63) ∧ Q (.bl (k != 0)) H') E) := by
  intro pins s σ H xs us Q I r h
  obtain ⟨a, dx, fs, rfl, ha, h⟩ := h
  obtain ⟨mA, J, _⟩ := ins_get I.hok ha
  obtain ⟨od, J, _⟩ := J.look
  cases r with
  | cons r1 r2 =>
    cases r1
    cases r2
    refine callType_newIn PySem.F.called_bool PySem.F.newNe_bool (PySem.F.typeCall_bool_1 _) (PySem.F.newCall_bool_1 _) (fun obj => PySem.F.args_object_init_2 obj _) PySem.F.entry_bool_new bool_new_own ?_
    refine truthy_len_K I.kIn J h0 hs hf (wpAny_mono (run_sp F hb hx (A := X.A.in1.in1.in1) ⟨hr.in1.in1.in1, rfl⟩ I (vs := [.ref a]) (us := [.ref a]) (.cons (show RelV (.ref a) (.ref a) from rfl) .nil) h) (fun v s' q => ?_) fun _ _ z => z)
    obtain ⟨z, H', I', rz, k, rfl, hk, q⟩ := q
    obtain ⟨t, rfl⟩ := rz
    exact ⟨k, t, rfl, hk, fun tk => ⟨rfl, .bl (k != 0), H', I'.tok _, rfl, q⟩⟩
theorem call_strO (F : FnOk X.prog X.w X.K X.mg X.base CX n f fd ps sp) (hs : PySem.W.findIn X.K (.ref C) "__str__" = some (some (.ref f))) (hf : PySem.W.isFn X.K (.ref f) = true) (hb : Binds X.K fd ps []) (hx : Passes CX X E) (hr : Room (n + 2) X.A) :
    CallR X (.type "str") (fun xs H Q => ∃ a dx fs, xs = [.ref a] ∧ H a = some (.ins C dx fs) ∧ sp [.ref a] H (fun v H' => ∃ k : Str, v = .str k ∧ Q (.str k) H') E) := by
  intro pins s σ H xs us Q I r h
  obtain ⟨a, dx, fs, rfl, ha, h⟩ := h
  obtain ⟨mA, J, _⟩ := ins_get I.hok ha
  obtain ⟨od, J, _⟩ := J.look
  cases r with
  | cons r1 r2 =>
    cases r1
    cases r2
    refine PySem.W.kso_call (hr.in1.in1).units0 I.kIn J hs hf (wpAny_mono (run_sp F hb hx (A := X.A.in1.in1) ⟨hr.in1.in1, rfl⟩ I (vs := [.ref a]) (us := [.ref a]) (.cons (show RelV (.ref a) (.ref a) from rfl) .nil) h) (fun v s' q => ?_) fun _ _ z => z)
    obtain ⟨z, H', I', rz, k, rfl, q⟩ := q
    obtain ⟨t, rfl⟩ := rz
    exact ⟨.str k, H', I', ⟨_, rfl⟩, q⟩
end
end OwQ

namespace MxD
open PySem PySem.Spec PyProof.Rows L2
/-! max(xs, default=d) of a list of ints -/
theorem name_loop : (toString "max" ++ toString ".loop" : String) = "max.loop" := by decide
abbrev best0 (vs : Array Value) (c : Nat) : Obj := { cls := .type "list", dict := none, data := .seq vs c, slots := #[] }
section
variable {prog : Program} {w : World} {A : Around} {R : Result → Shared → Prop} {I : Addr} {fp wr : List Addr} {n : Nat} {P : Nat → Value → Prop} {St : Nat → Heap → Prop}
theorem turns (Wk : Walks prog w A.in1 I fp wr n P St) (bt : Nat → Nat → Bool) (cmp : CmpOf prog w A.in1 .Gt P bt) (S : Addr) (nS : S ∉ fp) (kw : List (Str × Value)) :
    ∀ (k j : Nat) (s : Shared) (u : Value) (c : Nat), n - (j + 1) = k → j + 1 ≤ n → St (j + 1) s.heap → P (argBest bt j) u → s.heap.get? S = some (best0 #[u, u] c) →
      (∀ v h2 tk, P (argBest bt (n - 1)) v → (∀ b o, b ∉ wr → b ≠ S → s.heap.get? b = some o → h2.get? b = some o) → R (.ok (.ret v)) { s with heap := h2, toks := tk }) →
      codeAny (model prog w) A (.builtin "max.loop" ⟨[.ref I, .none, .ref S], kw⟩) R s := by
  have nW : S ∉ wr := fun z => nS (Wk.sub _ z)
  intro k
  induction k with
  | zero =>
    intro j s u c hk hj st hu hS fin
    have e : j + 1 = n := by omega
    refine codeAny_builtin F.entry_max_loop ?_; rw [Around.under_plainId F.plain_max_loop _]
    refine wpAny_bind (wpAny_seqItems hS rfl (wpAny_bind (wpAny_tryCatch (Wk.done s _ _ (e ▸ st) fun h2 tk kp => ?_))))
    have S2 := kp S _ nW hS
    refine wpAny_bind (wpAny_updateSeq S2 rfl (wpAny_bind (wpAny_letGo (wpAny_pure ?_))))
    exact fin u _ tk (by rw [← e]; exact hu) fun b o nb nbS z => (Heap.get?_update_other _ _ (Ne.symm nbS)).trans (kp b o nb z)
  | succ k ih =>
    intro j s u c hk hj st hu hS fin
    have lt : j + 1 < n := by omega
    refine codeAny_builtin F.entry_max_loop ?_; rw [Around.under_plainId F.plain_max_loop _]
    refine wpAny_bind (wpAny_seqItems hS rfl (wpAny_bind (wpAny_tryCatch (Wk.item (j + 1) s _ _ lt st fun v h2 tk hP st2 kp => ?_))))
    have S2 := kp S _ nW hS
    show wpAny _ A.in1 (tryCatch (holding [v, v] (richCompare .Gt v u >>= _)) _ >>= _) _ _ _
    refine wpAny_bind (wpAny_tryCatch (wpAny_holding (wpAny_bind (cmp (j + 1) (argBest bt j) v u _ _ _ hP hu ?_))))
    refine wpAny_bind (wpAny_holding (wpAny_truthy_bool (wpAny_bind (wpAny_letGo (wpAny_pure ?_)))))
    cases hb : bt (j + 1) (argBest bt j) with
    | true =>
      simp only [if_true]
      refine wpAny_bind (wpAny_updateSeq S2 rfl (wpAny_bind (wpAny_letGo ?_))); rw [name_loop]
      refine wpAny_pure ⟨plainId_quiet F.plain_max_loop _, ih (j + 1) _ v _ (by omega) lt (Wk.frame _ _ _ st2 fun b hbf o z => ?_) (by simp only [argBest, hb, if_true]; exact hP) (Heap.get?_update_self _ S2 rfl) fun v3 h3 t3 P3 kp3 => ?_⟩
      · exact (Heap.get?_update_other _ _ (fun y : S = b => nS (by rw [y]; exact hbf))).trans z
      · exact fin v3 h3 t3 P3 fun b o nb nbS z => kp3 b o nb nbS ((Heap.get?_update_other _ _ (Ne.symm nbS)).trans (kp b o nb z))
    | false =>
      simp only [Bool.false_eq_true, if_false]
      refine wpAny_bind (wpAny_letGo ?_); rw [name_loop]
      refine wpAny_pure ⟨plainId_quiet F.plain_max_loop _, ih (j + 1) _ u c (by omega) lt st2 (by simp only [argBest, hb, Bool.false_eq_true, if_false]; exact hu) S2 fun v3 h3 t3 P3 kp3 => ?_⟩
      exact fin v3 h3 t3 P3 fun b o nb nbS z => kp3 b o nb nbS (kp b o nb z)
theorem firstT (Wk : Walks prog w A.in1 I fp wr n P St) (bt : Nat → Nat → Bool) (cmp : CmpOf prog w A.in1 .Gt P bt) (S : Addr) (nS : S ∉ fp) (nm : Str) (d : Value) {s : Shared} {c : Nat} (st : St 0 s.heap) (hS : s.heap.get? S = some (best0 #[] c))
    (fin : ∀ v h2 tk, (n = 0 → v = d) → (0 < n → P (argBest bt (n - 1)) v) → (∀ b o, b ∉ wr → b ≠ S → s.heap.get? b = some o → h2.get? b = some o) → R (.ok (.ret v)) { s with heap := h2, toks := tk }) :
    codeAny (model prog w) A (.builtin "max.loop" ⟨[.ref I, .none, .ref S], [(nm, d)]⟩) R s := by
  have nW : S ∉ wr := fun z => nS (Wk.sub _ z)
  refine codeAny_builtin F.entry_max_loop ?_; rw [Around.under_plainId F.plain_max_loop _]
  refine wpAny_bind (wpAny_seqItems hS rfl (wpAny_bind (wpAny_tryCatch ?_)))
  by_cases hn : n = 0
  · refine Wk.done s _ _ (hn ▸ st) fun h2 tk kp => ?_
    refine wpAny_bind (wpAny_rule (wpAny_pure ?_))
    exact fin d h2 tk (fun _ => rfl) (fun z => absurd hn (by omega)) fun b o nb _ z => kp b o nb z
  · refine Wk.item 0 s _ _ (by omega) st fun v h2 tk hP st2 kp => ?_
    have S2 := kp S _ nW hS
    show wpAny _ A.in1 (updateSeq S (fun _ => #[v, v]) >>= _) _ _ _
    refine wpAny_bind ?_; refine wpAny_updateSeq S2 rfl ?_; rw [name_loop]
    refine wpAny_pure ⟨plainId_quiet F.plain_max_loop _, turns Wk bt cmp S nS _ _ 0 _ v _ rfl (by omega) (Wk.frame _ _ _ st2 fun b hbf o z => ?_) hP (Heap.get?_update_self _ S2 rfl) fun v3 h3 t3 P3 kp3 => ?_⟩
    · exact (Heap.get?_update_other _ _ (fun y : S = b => nS (by rw [y]; exact hbf))).trans z
    · exact fin v3 h3 t3 (fun z => absurd z hn) (fun _ => P3) fun b o nb nbS z => kp3 b o nb nbS ((Heap.get?_update_other _ _ (Ne.symm nbS)).trans (kp b o nb z))
end
section
variable {prog : Program} {w : World} {A : Around} {E : Value → Shared → Prop} {s : Shared}
theorem args_kw (a d : Value) : argsOk "max" ⟨[a], [("default", d)]⟩ := by unfold argsOk; kernel_rfl
theorem tree_kw {id : String} {b : Builtin} {args : List Value} {kw : List (Str × Value)} {Q : Value → Shared → Prop} (hk : builtinKind id = none) (hp : plainId id = true) (hb : entryFor table id = some b) (ha : argsOk id ⟨args, kw⟩)
    (hc : wpAny (model prog w) A.in1 (b ⟨args, kw⟩) (fun f s2 => match f with
      | .done g => (match (Except.ok g : Result) with | .ok (.ret v) => Q v s2 | .ok _ => False | .error e => E e s2)
      | .again c2 => c2.quiet = true ∧ codeAny (model prog w) A c2 (fun r s2 => match r with | .ok (.ret v) => Q v s2 | .ok _ => False | .error e => E e s2) s2) E s) : wpAny (model prog w) A (call (.builtin id) args kw) Q E s := by
  refine wpAny_call (codeAny_call_builtin hp hb ?_); simp only [checkBuiltinCall, hk]
  cases sg : Manifest.signature? id with
  | none => exact wpAny_pure hc
  | some q =>
    simp only [argsOk, sg] at ha
    have ok : Bind.checkArgs id q ⟨args, kw⟩ = pure () := ha
    show wpAny _ A.in1 (Bind.checkArgs id q ⟨args, kw⟩) _ _ s
    rw [ok]
    exact wpAny_pure hc
theorem max_dflt {l : Addr} {xs : Array (Int × Tok)} {d : Value} {Q : Value → Shared → Prop} (hh : A.handled = none) (hl : s.heap.IsList l (intItems xs))
    (fin : ∀ v h2 tk, (xs.size = 0 → v = d) → (0 < xs.size → (intItems xs)[argBest (fun i j => decide (numAt xs i > numAt xs j)) (xs.size - 1)]? = some v) → (∀ b o, s.heap.get? b = some o → h2.get? b = some o) → Q v { s with heap := h2, toks := tk }) :
    wpAny (model prog w) A (call (.builtin "max") [.ref l] [("default", d)]) Q E s := by
  refine tree_kw F.kind_max F.plain_max F.entry_max (args_kw _ _) ?_
  show wpAny _ A.in1 (Builtin.Builtins.bindParams "max" ["key", "default"] 0 ⟨[], [("default", d)]⟩ >>= _) _ _ s
  refine wpAny_bind (wpAny_of_eq (show Builtin.Builtins.bindParams "max" ["key", "default"] 0 ⟨[], [("default", d)]⟩ = pure [none, some d] from rfl) ?_)
  refine wpAny_bind (wpAny_pure (wpAny_bind (iter_intList hl fun s2 e st inb ne => ?_)))
  refine wpAny_bind (wpAny_newObj_type ?_)
  have nS : s2.heap.objs.size ∉ [s.heap.objs.size, l] := fun z => Nat.lt_irrefl _ (inb _ z)
  rw [name_loop]
  have Wk := Walks.list (prog := prog) (w := w) (A := A.in1) hh s.heap.objs.size l ne (intItems xs)
  refine wpAny_pure ⟨plainId_quiet F.plain_max_loop _, firstT Wk (fun i j => decide (numAt xs i > numAt xs j)) (CmpOf.ints_gt (numAt xs) (fun _ _ => intItems_at)) s2.heap.objs.size nS "default" d (Wk.frame _ _ _ st fun b _ o z => Heap.get?_push_of_some _ z) (Heap.get?_push_size _ rfl) fun v h2 tk v0 v1 kp => ?_⟩
  have sz : (intItems xs).size = xs.size := by simp [intItems]
  rw [sz] at v0 v1
  subst e
  refine fin v h2 tk v0 v1 fun b o z => ?_
  have lb := Heap.lt_size z
  refine kp b o (fun y => ?_) (fun y => ?_) (Heap.get?_push_of_some _ (Heap.get?_push_of_some _ z))
  · rw [List.mem_singleton.mp y] at lb; exact Nat.lt_irrefl _ lb
  · rw [y] at lb
    have : (s.heap.push { cls := .type "list_iterator", data := .fields #[.ref l, .int 0 0] }).objs.size = s.heap.objs.size + 1 := Heap.size_push ..
    have lb' : (s.heap.push { cls := .type "list_iterator", data := .fields #[.ref l, .int 0 0] }).objs.size < s.heap.objs.size := lb
    rw [this] at lb'
    exact absurd lb' (Nat.not_lt.mpr (Nat.le_succ _))
end
/-- max(xs, default=d): the greatest, or d -/
def rMaxD (K : PySem.W.Frag) : List V → List V → Hp → VK → Prop := fun vs zs H Q => ∃ (a : Addr) (ns : List Int) (d : V), vs = [V.ref a] ∧ zs = [d] ∧ SqL K H a (ns.map V.int) ∧ (ns = [] → Q d H) ∧ ∀ m ∈ ns, (∀ k ∈ ns, k ≤ m) → Q (.int m) H
theorem cr_maxD {X : Cx} (hc : X.calm = true) : CallRK X (.builtin "max") ["default"] (rMaxD X.K) := by
  intro pins s σ H vs zs us ws Q I r rz h
  obtain ⟨p, ns, d, rfl, rfl, hs, q0, q1⟩ := h
  obtain ⟨its, rv, hl, _⟩ := I.list hs
  rw [Vals.ref1 r]
  cases rz with
  | @cons _ dv _ _ rd rn =>
    cases rn
    have hi := rv.ints
    obtain ⟨xs, e⟩ := hi.allInts.items
    have hn : numsOf (intItems xs).toList = ns := by rw [← e]; exact hi.numsOf
    rw [nums_intItems] at hn
    subst hn
    have hl2 := hl.isList
    rw [e] at hl2
    show wpAny _ _ (call (.builtin "max") [.ref p] [("default", dv)]) _ _ _
    refine max_dflt (I.ok.hd hc) hl2 fun v h2 tk v0 v1 kp => ?_
    by_cases z : xs.size = 0
    · rw [v0 z]
      have z2 : xs.toList = [] := List.length_eq_zero_iff.mp (by rw [Array.length_toList]; exact z)
      exact ⟨d, H, I.kept kp, rd, q0 (by rw [z2]; rfl)⟩
    · obtain ⟨t, rfl⟩ := intItems_at (v1 (by omega))
      obtain ⟨_, b2⟩ := argBest_gt (numAt xs) (xs.size - 1)
      refine ⟨.int _, H, I.kept kp, ⟨_, rfl⟩, q1 _ ?_ fun k hk => ?_⟩
      · rw [numAt_eq]; exact PySem.getD_mem (by rw [List.length_map, Array.length_toList]; omega)
      · obtain ⟨j, hj, rfl⟩ := mem_getD hk
        rw [List.length_map, Array.length_toList] at hj
        rw [← numAt_eq]; exact b2 j (by omega)
end MxD

namespace NlC
open PySem PySem.Spec PyProof.Rows L2
/-! a list of anything beside the empty list -/
section
variable {X : Cx}
def rNeNil (K : PySem.W.Frag) : R2 := fun x y H Q => ∃ (a b : Addr) (xs : List V), x = .ref a ∧ y = .ref b ∧ SqL K H a xs ∧ SqL K H b [] ∧ Q (.bl (!xs.isEmpty)) H
theorem op_neNil (hu : X.A.units < cLine) : OpR X (compareOp .NotEq) (rNeNil X.K) := by
  intro pins s σ H x y v u Q I rx ry h
  obtain ⟨a, b, xs, rfl, rfl, ha, hb, q⟩ := h
  cases rx
  cases ry
  obtain ⟨its, rv, l1, _⟩ := I.list ha
  obtain ⟨its2, rv2, l2, _⟩ := I.list hb
  have l1' : s.heap.IsList a its.toArray := by obtain ⟨o, n, ho, hc, _, hd⟩ := l1; exact ⟨o, ho, hc, n, hd⟩
  have l2' : s.heap.IsList b its2.toArray := by obtain ⟨o, n, ho, hc, _, hd⟩ := l2; exact ⟨o, ho, hc, n, hd⟩
  clear l1 l2
  have e2 : its2 = [] := rv2.zero
  subst e2
  cases xs with
  | nil =>
    have e1 : its = [] := rv.zero
    subst e1
    exact SeqAt.RcNeAt.lists l1' l2' rfl hu (e := fun _ => true) (fun j h => absurd h (Nat.not_lt_zero _)) X.prog X.w _ _ ⟨.bl _, H, I, rfl, q⟩
  | cons z zs =>
    cases rv with
    | cons r1 r2 =>
      exact SeqAt.RcNeAt.lists_lengths l1' l2' (by simp) hu X.prog X.w _ _ ⟨.bl _, H, I, rfl, q⟩
end
end NlC

/-! own: zip of a tuple and a list -/
namespace ZpM
open PySem PySem.Spec PyProof.Rows L2
def Izm (K : PySem.W.Frag) (a b : Addr) : It :=
  ⟨fun i H => ∃ (xs ys : List V) (x y : V), SqT K H a xs ∧ SqL K H b ys ∧ xs[i]? = some x ∧ ys[i]? = some y, fun i H v H' => ∃ pr x y, v = .ref pr ∧ H pr = none ∧ H' = upd H pr (.tup [x, y]) ∧ (∀ xs, SqT K H a xs → xs[i]? = some x) ∧ ∀ ys, SqL K H b ys → ys[i]? = some y, fun i H => ∃ xs ys : List V, SqT K H a xs ∧ SqL K H b ys ∧ i ≤ xs.length ∧ i ≤ ys.length ∧ (i = xs.length ∨ i = ys.length)⟩
/-- what a zip of the two keeps -/
def Tn (z TI TO i1 i2 a b : Addr) (i : Nat) (h : Heap) : Prop := IsZip h z TI TO .none ∧ IsTupOf2 h TI (.ref i1) (.ref i2) ∧ (∃ x y, IsTupOf2 h TO x y) ∧ h.IsTupleIter i1 a i ∧ h.IsListIter i2 b i
theorem mem5 {c z TI TO i1 i2 : Addr} (h : c ∈ [z, TI, TO, i1, i2]) : c = z ∨ c = TI ∨ c = TO ∨ c = i1 ∨ c = i2 := by simpa using h
theorem turn_zm {P : Program} {w : World} {K : PySem.W.Frag} {elts : List Expr} {kk : Nat} {tpos : Pos} {a b z TI TO i1 i2 : Addr} (S : ZipSep2 z TI TO i1 i2 [i1, a] [i2, b]) :
    Turn P w K (.Tuple elts kk tpos) (Izm K a b) [z, TI, TO, i1, i2] z (Tn z TI TO i1 i2 a b) where
  mem := List.mem_cons_self
  obj := fun i h tn c hc => by
    obtain ⟨tz, tI, ⟨x, y, tO⟩, ⟨o1, e1, _, d1⟩, ⟨o2, e2, _, d2⟩⟩ := tn
    rcases mem5 hc with q | q | q | q | q <;> rw [q]
    · exact ⟨_, tz, fun v y => nomatch y⟩
    · exact ⟨_, tI, fun v y => nomatch y⟩
    · exact ⟨_, tO, fun v y => nomatch y⟩
    · exact ⟨o1, e1, fun v y => by rw [d1] at y; cases y⟩
    · exact ⟨o2, e2, fun v y => by rw [d2] at y; cases y⟩
  keep := fun i h h' tn kp => by
    obtain ⟨tz, tI, ⟨x, y, tO⟩, t1, t2⟩ := tn
    exact ⟨kp z (by simp) _ tz, kp TI (by simp) _ tI, ⟨x, y, kp TO (by simp) _ tO⟩, t1.at fun o e => kp i1 (by simp) o e, t2.at fun o e => kp i2 (by simp) o e⟩
  item := by
    intro X hP hw hK hc i pins s σ H E I hf tn hg
    subst hP hw hK
    obtain ⟨tz, tI, ⟨x0, y0, tO⟩, t1, t2⟩ := tn
    obtain ⟨xs, ys, x, y, qx, qy, hx, hy⟩ := hg
    obtain ⟨its, rv, p1, _⟩ := I.tuple qx
    obtain ⟨jts, rw2, p2, _⟩ := I.list qy
    obtain ⟨u, hu, ru⟩ := rv.get hx
    obtain ⟨v, hv, rv2⟩ := rw2.get hy
    have l1 : s.heap.IsTuple a its.toArray := p1
    have l2 : s.heap.IsList b jts.toArray := p2.isList
    have na : a ≠ i1 := fun e => by
      obtain ⟨_, g1, c1, _⟩ := l1
      obtain ⟨_, g2, c2, _⟩ := t1
      rw [e, g2] at g1
      cases g1
      rw [c1] at c2
      exact absurd (Value.type.inj c2) (by decide)
    have nb : b ≠ i2 := fun e => by
      obtain ⟨_, _, g1, c1, _⟩ := p2
      obtain ⟨_, g2, c2, _⟩ := t2
      rw [e, g2] at g1
      cases g1
      rw [c1] at c2
      exact absurd (Value.type.inj c2) (by decide)
    have hh : X.A.in1.handled = none := I.ok.hd hc
    have zl : z < s.heap.objs.size := Heap.lt_size tz
    refine wpAny_pyNext_zipD2_item S (Draws.tuple hh i1 a na its.toArray) (Draws.list hh i2 b nb jts.toArray) tz tI tO ⟨t1, l1⟩ ⟨t2, l2⟩ ?_ ?_ fun u' v' h2 tk hu' hv' z2 O2 s1 s2 hT hs kp => ?_
    · have := (List.getElem?_eq_some_iff.mp hu).1
      simpa using this
    · have := (List.getElem?_eq_some_iff.mp hv).1
      simpa using this
    have eu : u' = u := by
      have h : its.toArray[i]? = some u' := hu'
      rw [List.getElem?_toArray, hu] at h
      exact (Option.some.inj h).symm
    have ev : v' = v := by
      have h : jts.toArray[i]? = some v' := hv'
      rw [List.getElem?_toArray, hv] at h
      exact (Option.some.inj h).symm
    subst eu ev
    refine ⟨_, rfl, wpAny_letOwnedTupleGo_zip (s := { s with heap := h2, toks := tk }) z2 fun h3 z3 sb => ?_⟩
    have T3 : h3.get? s.heap.objs.size = some { cls := .type "tuple", data := .seq #[u', v'] } := (sb.2 _ (Nat.ne_of_gt zl)).trans hT
    have made : ObjOk X.prog X.w (upd H s.heap.objs.size (.tup [x, y])) h3 s.heap.objs.size (.tup [x, y]) := ⟨by show 2 ≤ sizeLine; decide, [u', v'], .cons ru (.cons rv2 .nil), ⟨_, T3, rfl, _, rfl⟩⟩
    have I3 : Inv X pins σ (upd H s.heap.objs.size (.tup [x, y])) { s with heap := h3, toks := tk } :=
      I.turnedNew (ch := [z, TI, TO, i1, i2]) (fun c o nc e => (sb.2 c (fun y => nc (by simp [y]))).trans (kp c o (fun y => nc (by simp [y])) (fun y => nc (by simp [y])) (fun y => nc (by simp [y])) (fun y => nc (by simp [y])) e)) hf (Nat.le_refl _) made
    refine ⟨.ref s.heap.objs.size, _, I3, rfl, ⟨_, x, y, rfl, I.hok.fresh (Nat.le_refl _), rfl, fun l hl => by rw [I.tuple_inj hl qx]; exact hx, fun l hl => by rw [I.list_inj hl qy]; exact hy⟩, ⟨z3, ?_, ⟨_, _, (sb.2 _ S.TOz).trans O2⟩, s1.1.at fun o e => (sb.2 _ S.zi1.symm).trans e, s2.1.at fun o e => (sb.2 _ S.zi2.symm).trans e⟩, fun c hc => ?_⟩
    · exact (sb.2 _ S.TIz).trans (kp _ _ S.TIz S.TITO S.TIi1 S.TIi2 tI)
    · have lc : c < s.heap.objs.size := by
        rcases mem5 hc with q | q | q | q | q <;> rw [q]
        · exact zl
        · exact Heap.lt_size tI
        · exact Heap.lt_size tO
        · obtain ⟨_, e1, _⟩ := t1; exact Heap.lt_size e1
        · obtain ⟨_, e2, _⟩ := t2; exact Heap.lt_size e2
      rw [upd_ne (Nat.ne_of_lt lc)]
      exact (hf c hc).1
  done := by
    intro X hP hw hK hc i pins s σ H E I hf tn hg
    subst hP hw hK
    obtain ⟨tz, tI, ⟨x0, y0, tO⟩, t1, t2⟩ := tn
    obtain ⟨xs, ys, qx, qy, le1, le2, hend⟩ := hg
    obtain ⟨its, rv, p1, _⟩ := I.tuple qx
    obtain ⟨jts, rw2, p2, _⟩ := I.list qy
    have l1 : s.heap.IsTuple a its.toArray := p1
    have l2 : s.heap.IsList b jts.toArray := p2.isList
    have na : a ≠ i1 := fun e => by
      obtain ⟨_, g1, c1, _⟩ := l1
      obtain ⟨_, g2, c2, _⟩ := t1
      rw [e, g2] at g1
      cases g1
      rw [c1] at c2
      exact absurd (Value.type.inj c2) (by decide)
    have nb : b ≠ i2 := fun e => by
      obtain ⟨_, _, g1, c1, _⟩ := p2
      obtain ⟨_, g2, c2, _⟩ := t2
      rw [e, g2] at g1
      cases g1
      rw [c1] at c2
      exact absurd (Value.type.inj c2) (by decide)
    have hh : X.A.in1.handled = none := I.ok.hd hc
    have n1 : its.toArray.size = xs.length := by have := rv.length; simp; omega
    have n2 : jts.toArray.size = ys.length := by have := rw2.length; simp; omega
    exact wpAny_pyNext_zipD2_end S (Draws.tuple hh i1 a na its.toArray) (Draws.list hh i2 b nb jts.toArray) tz tI tO ⟨t1, l1⟩ ⟨t2, l2⟩ (by omega) (by omega) (by omega) fun h2 tk kp => ⟨rfl, I.turnedL (ch := [z, TI, TO, i1, i2]) (fun c o nc e =>
      kp c o (fun y => nc (by simp [y])) (fun y => nc (by simp [y])) (fun y => nc (by simp [y])) (fun y => nc (by simp [y])) e) hf⟩
  self := fun A i s Q E tn q => wpAny_pyIter_zip tn.1 q
def iZm (K : PySem.W.Frag) (ta : TA) : TI := fun σ H R => ta σ H fun vs H1 => ∃ a b xs ys, vs = [.ref a, .ref b] ∧ SqT K H1 a xs ∧ SqL K H1 b ys ∧ R (Izm K a b) H1
theorem pi_zm {X : Cx} {e e2 : Expr} {ta : TA} {p pos tpos : Pos} {elts : List Expr} {kk : Nat} (hg : Gl X "zip") (hm : X.mg "zip" = none) (ha : PA X [e, e2] ta)
    (hs : starEach [e, e2] X.env = (false, eval e X.env) :: starEach [e2] X.env := by rfl) (hpl : (backTo pos (starEach [e2] X.env)).any (·.1) = false := by rfl) : PI X (.Tuple elts kk tpos) (.Call (.Name "zip" p) [e, e2] [] pos) (iZm X.K ta) := by
  constructor
  intro pins s σ H R I h
  refine Call_ (ld_blt I hg hm PyProof.Rows.boot_zip (PyProof.Rows.callWith_type1 (thn (ha.run pos pins s σ H _ I h) fun us s1 ⟨vs, H1, I1, r1, q1⟩ => ?_) hs hpl))
  obtain ⟨a, b, xs, ys, ev, qx, qy, fin⟩ := q1
  subst ev
  cases r1 with
  | cons ra rr =>
    cases rr with
    | cons rb rr =>
      cases rr
      cases ra
      cases rb
      obtain ⟨its, rv, p1, _⟩ := I1.tuple qx
      obtain ⟨jts, rw2, p2, _⟩ := I1.list qy
      have l1 : s1.heap.IsTuple a its.toArray := p1
      have l2 : s1.heap.IsList b jts.toArray := p2.isList
      have la : a < s1.heap.objs.size := by obtain ⟨_, e1, _⟩ := id l1; exact Heap.lt_size e1
      have lb : b < s1.heap.objs.size := p2.lt
      refine zip_begins2 (begins_tuple a its.toArray) (begins_list b jts.toArray) l1 l2 fun h2 z2 T2 O2 g1 g2 sz2 kp => wpAny_pyIter_zip z2 ?_
      refine ⟨s1.heap.objs.size + 4, [s1.heap.objs.size + 4, s1.heap.objs.size + 2, s1.heap.objs.size + 3, s1.heap.objs.size, s1.heap.objs.size + 1], Tn (s1.heap.objs.size + 4) (s1.heap.objs.size + 2) (s1.heap.objs.size + 3) s1.heap.objs.size (s1.heap.objs.size + 1) a b, _, H1, rfl, I1.kept (t' := s1.toks) kp, turn_zm ?_, ⟨z2, T2, ⟨_, _, O2⟩, ⟨_, g1, rfl, rfl⟩, ⟨_, g2, rfl, rfl⟩⟩, fun c hc => ?_, fin⟩
      · generalize s1.heap.objs.size = n at *
        constructor
        all_goals first
          | exact List.mem_cons_self
          | (intro q; rcases List.mem_cons.mp q with q | q <;> (try rw [List.mem_singleton] at q) <;> (have la' : (a : Nat) < n := la; have lb' : (b : Nat) < n := lb; unfold Addr at *; omega))
          | (intro q; unfold Addr at *; omega)
      · have lc : s1.heap.objs.size ≤ c := by
          rcases mem5 hc with q | q | q | q | q <;> rw [q]
          · exact Nat.le_add_right _ _
          · exact Nat.le_add_right _ _
          · exact Nat.le_add_right _ _
          · exact Nat.le_refl _
          · exact Nat.le_add_right _ _
        exact I1.fpOk lc (I1.hok.fresh lc)
end ZpM

set_option Elab.async false
set_option linter.all false
set_option maxRecDepth 100000
set_option maxHeartbeats 4000000
namespace Gait
open PySem PySem.Spec PyProof.Rows L2
section
variable {X : Cx}
/-- // by any divisor but 0 -/
def CDivA (_ j : Int) : Prop := j ≠ 0 ∧ j.natAbs.log2 < 9000
theorem op_fdivA : OpR X (binaryOp .FloorDiv) (rI CDivA fun i j => .int (i.fdiv j)) := opI fun _ _ _ _ _ _ _ hc w => floordiv_int hc.1 w (.inl (PyProof.noPylong_of_log2 hc.2))
end
/-- what stood stands, but for what stands at r -/
def Kp (r : Addr) (H H' : Hp) : Prop := (∀ b o, b ≠ r → H b = some o → H' b = some o) ∧ ∀ c l, H r = some (.lst (.ref c :: l)) → ∃ l', H' r = some (.lst (.ref c :: l'))
theorem Kp.refl {r : Addr} {H : Hp} : Kp r H H := ⟨fun _ _ _ h => h, fun _ l h => ⟨l, h⟩⟩
theorem Kp.trans {r : Addr} {H H1 H2 : Hp} (a : Kp r H H1) (b : Kp r H1 H2) : Kp r H H2 := ⟨fun c o n h => b.1 c o n (a.1 c o n h), fun c l h => by
  obtain ⟨l1, h1⟩ := a.2 c l h
  exact b.2 c l1 h1⟩
theorem Kp.of {r : Addr} {H H' : Hp} (s : Same H H') : Kp r H H' := ⟨fun b o _ h => s b o h, fun _ l h => ⟨l, s _ _ h⟩⟩
theorem Kp.at {r c : Addr} {H : Hp} {l l' : List V} (e : H r = some (.lst (.ref c :: l))) : Kp r H (upd H r (.lst (.ref c :: l'))) := ⟨fun b u n h => by rw [upd_ne n]; exact h, fun d m h => by
  rw [e] at h
  cases h
  exact ⟨l', upd_same⟩⟩
theorem Kp.rd {r x : Addr} {H H' : Hp} {u : HO} (k : Kp r H H') (n : x ≠ r) (h : Rd H x u) : Rd H' x u := by
  rcases h with h | ⟨o, h⟩
  · exact .inl (k.1 _ _ n h)
  · exact .inr ⟨o, k.1 _ _ n h⟩
theorem Kp.L {K : PySem.W.Frag} {r x : Addr} {H H' : Hp} {xs : List V} (k : Kp r H H') (n : x ≠ r) (h : SqL K H x xs) : SqL K H' x xs := by
  rcases h with h | h
  · exact .inl (k.rd n h)
  · exact .inr h
theorem Kp.T {K : PySem.W.Frag} {r x : Addr} {H H' : Hp} {xs : List V} (k : Kp r H H') (n : x ≠ r) (h : SqT K H x xs) : SqT K H' x xs := by
  rcases h with h | h
  · exact .inl (k.rd n h)
  · exact .inr h
theorem Same.T {K : PySem.W.Frag} {x : Addr} {H H' : Hp} {xs : List V} (k : Same H H') (h : SqT K H x xs) : SqT K H' x xs := by
  rcases h with (h | ⟨o, h⟩) | h
  · exact .inl (.inl (k _ _ h))
  · exact .inl (.inr ⟨o, k _ _ h⟩)
  · exact .inr h
theorem Same.new {H : Hp} {p : Addr} {o : HO} (h : H p = none) : Same H (upd H p o) := fun b x e => by
  rw [upd_ne (ne_of_none e h)]
  exact e
theorem some_ne_none {H : Hp} {p q : Addr} {o : HO} (h : H p = some o) (n : H q = none) : p ≠ q := ne_of_none h n
/-- the law's source of numbers at r -/
structure RgS (H : Hp) (r c : Addr) (ns : List Int) (i x k : Int) : Prop where
  hr : H r = some (.lst [.ref c, .int i, .int x, .int k])
  hc : H c = some (.lst (ns.map V.int))
  i0 : 0 ≤ i
  i1 : i ≤ (ns.length : Int)
  x0 : 0 ≤ x
  k0 : 0 ≤ k
  k1 : k < 2147483563
theorem RgS.ne {H : Hp} {r c : Addr} {ns : List Int} {i x k : Int} (R : RgS H r c ns i x k) : c ≠ r := by
  refine ne_of R.hc R.hr fun z => ?_
  cases ns with
  | nil => cases z
  | cons m l => cases z
theorem RgS.set {H : Hp} {r c : Addr} {ns : List Int} {i x k i' x' k' : Int} (R : RgS H r c ns i x k) (i0 : 0 ≤ i') (i1 : i' ≤ (ns.length : Int)) (x0 : 0 ≤ x') (k0 : 0 ≤ k') (k1 : k' < 2147483563) : RgS (upd H r (.lst [.ref c, .int i', .int x', .int k'])) r c ns i' x' k' :=
  ⟨upd_same, by rw [upd_ne R.ne]; exact R.hc, i0, i1, x0, k0, k1⟩
def Rg (H : Hp) (r : Addr) : Prop := ∃ c ns i x k, RgS H r c ns i x k
theorem Rg.same {H H' : Hp} {r : Addr} (R : Rg H r) (s : Same H H') : Rg H' r := by
  obtain ⟨c, ns, i, x, k, R⟩ := R
  exact ⟨c, ns, i, x, k, s _ _ R.hr, s _ _ R.hc, R.i0, R.i1, R.x0, R.k0, R.k1⟩
theorem Rg.some {H : Hp} {r : Addr} (R : Rg H r) : ∃ o, H r = some o := by
  obtain ⟨c, ns, i, x, k, R⟩ := R
  exact ⟨_, R.hr⟩
theorem Rg.ne {H : Hp} {r p : Addr} (R : Rg H r) (h : H p = none) : p ≠ r := by
  obtain ⟨o, e⟩ := R.some
  exact (ne_of_none e h).symm
/-- what is new at H2 may be written later -/
theorem Rg.put {H2 H5 : Hp} {r D : Addr} {o : HO} (R2 : Rg H2 r) (nD : H2 D = none) (k : Kp r H2 H5) (R5 : Rg H5 r) : Rg (upd H5 D o) r := by
  have Dr : D ≠ r := R2.ne nD
  obtain ⟨c2, n2, i2, x2, k2, R2⟩ := R2
  obtain ⟨c, ns, i, x, kk, R⟩ := R5
  obtain ⟨l', e⟩ := k.2 _ _ R2.hr
  rw [R.hr] at e
  cases e
  exact ⟨c2, ns, i, x, kk, by rw [upd_ne Dr.symm]; exact R.hr, by rw [upd_ne (ne_of_none R2.hc nD)]; exact R.hc, R.i0, R.i1, R.x0, R.k0, R.k1⟩
theorem Kp.put {H H2 H5 : Hp} {r D : Addr} {o : HO} (nD : H2 D = none) (Dr : D ≠ r) (k : Kp r H2 H5) : Kp r H2 (upd H5 D o) := ⟨fun b u nb e => by
  rw [upd_ne (ne_of_none e nD)]
  exact k.1 _ _ nb e, fun c l e => by
  obtain ⟨l', e'⟩ := k.2 c l e
  exact ⟨l', by rw [upd_ne Dr.symm]; exact e'⟩⟩
theorem sz {n : Nat} (h : n ≤ 100000) : n ≤ sizeLine := Nat.le_trans h (by decide)
theorem szl {n : Nat} (h : n < 100000) : n < sizeLine := Nat.lt_of_lt_of_le h (by decide)
theorem gcd_step {a b : Int} (h0 : 0 ≤ a) (hb : 0 ≤ b) : Int.gcd b (a % b) = Int.gcd a b := by
  rw [Int.gcd_eq_natAbs_gcd_natAbs, Int.gcd_eq_natAbs_gcd_natAbs, Int.natAbs_emod_of_nonneg h0, Nat.gcd_comm a.natAbs b.natAbs, Nat.gcd_rec b.natAbs a.natAbs, Nat.gcd_comm]
/-- a fraction in lowest terms -/
def red (n d : Int) : Int × Int := ((if d > 0 then 1 else -1) * n / (Int.gcd n d : Int), (if d > 0 then 1 else -1) * d / (Int.gcd n d : Int))
theorem gcd_posI {n d : Int} (hd : d ≠ 0) : (0 : Int) < (Int.gcd n d : Int) := by
  have : 0 < Int.gcd n d := Int.gcd_pos_of_ne_zero_right n hd
  omega
theorem sgn_cases (d : Int) : ((if d > 0 then (1 : Int) else -1) = 1 ∧ d > 0) ∨ ((if d > 0 then (1 : Int) else -1) = -1 ∧ ¬ d > 0) := by
  by_cases h : d > 0
  · exact .inl ⟨if_pos h, h⟩
  · exact .inr ⟨if_neg h, h⟩
theorem red_parts {n d : Int} (hd : d ≠ 0) : ∃ s g a b : Int, (s = 1 ∨ s = -1) ∧ 0 < g ∧ g = (Int.gcd n d : Int) ∧ s * n = g * a ∧ s * d = g * b ∧ 0 < b ∧ red n d = (a, b) ∧ Int.gcd a b = 1 := by
  have g0 := gcd_posI (n := n) hd
  obtain ⟨u, hu⟩ := Int.gcd_dvd_left n d
  obtain ⟨v, hv⟩ := Int.gcd_dvd_right n d
  have hg : Int.gcd u v = 1 := by
    have h1 : Int.gcd n d = (Int.gcd n d) * Int.gcd u v := by
      have e := Int.gcd_mul_left (Int.gcd n d : Int) u v
      rw [← hu, ← hv] at e
      simpa using e
    have h2 : 0 < Int.gcd n d := by omega
    have h3 : Int.gcd n d * 1 = Int.gcd n d * Int.gcd u v := by omega
    exact (Nat.eq_of_mul_eq_mul_left h2 h3).symm
  generalize hG : (Int.gcd n d : Int) = g at *
  have key : ∀ s : Int, (s = 1 ∨ s = -1) → Int.gcd (s * u) (s * v) = 1 := by
    intro s hs
    rcases hs with rfl | rfl
    · simpa using hg
    · simpa using hg
  have div : ∀ s w x : Int, x = g * w → s * x / g = s * w := by
    intro s w x e
    rw [e, show s * (g * w) = g * (s * w) by rw [← Int.mul_assoc, Int.mul_comm s g, Int.mul_assoc]]
    exact Int.mul_ediv_cancel_left _ (by omega)
  rcases sgn_cases d with ⟨e, h⟩ | ⟨e, h⟩
  · refine ⟨1, g, 1 * u, 1 * v, .inl rfl, g0, rfl, ?_, ?_, ?_, ?_, key 1 (.inl rfl)⟩
    · rw [hu]; simp
    · rw [hv]; simp
    · have : 0 < g * v := by omega
      have := Int.pos_of_mul_pos_right this (by omega)
      omega
    · unfold red
      rw [e, hG, div 1 u n hu, div 1 v d hv]
  · refine ⟨-1, g, -1 * u, -1 * v, .inr rfl, g0, rfl, ?_, ?_, ?_, ?_, key (-1) (.inr rfl)⟩
    · rw [hu]; simp [Int.mul_neg]
    · rw [hv]; simp [Int.mul_neg]
    · have h4 : 0 < g * (-v) := by
        rw [Int.mul_neg]
        omega
      have := Int.pos_of_mul_pos_right h4 (by omega)
      omega
    · unfold red
      rw [e, hG, div (-1) u n hu, div (-1) v d hv]
theorem red_pos {n d : Int} (hd : d ≠ 0) : 0 < (red n d).2 := by
  obtain ⟨s, g, a, b, _, _, _, _, _, hb, e, _⟩ := red_parts (n := n) hd
  rw [e]; exact hb
theorem red_gcd {n d : Int} (hd : d ≠ 0) : Int.gcd (red n d).1 (red n d).2 = 1 := by
  obtain ⟨s, g, a, b, _, _, _, _, _, hb, e, hg⟩ := red_parts (n := n) hd
  rw [e]; exact hg
theorem red_eq {n d : Int} (hd : d ≠ 0) : (red n d).1 * d = n * (red n d).2 := by
  obtain ⟨s, g, a, b, hs, g0, _, h1, h2, hb, e, hg⟩ := red_parts (n := n) hd
  rw [e]
  show a * d = n * b
  have hs2 : s ≠ 0 := by omega
  apply Int.eq_of_mul_eq_mul_left (a := s * g) (by
    intro z
    rcases Int.mul_eq_zero.mp z with z | z <;> omega)
  calc s * g * (a * d) = (g * a) * (s * d) := by simp only [Int.mul_assoc, Int.mul_comm, Int.mul_left_comm]
    _ = (s * n) * (g * b) := by rw [h1, h2]
    _ = s * g * (n * b) := by simp only [Int.mul_assoc, Int.mul_comm, Int.mul_left_comm]
theorem natAbs_sgn {s n : Int} (hs : s = 1 ∨ s = -1) : (s * n).natAbs = n.natAbs := by
  rcases hs with rfl | rfl
  · simp
  · simp
theorem red_le1 {n d : Int} (hd : d ≠ 0) : (red n d).1.natAbs ≤ n.natAbs := by
  obtain ⟨s, g, a, b, hs, g0, _, h1, h2, hb, e, hg⟩ := red_parts (n := n) hd
  rw [e, ← natAbs_sgn (n := n) hs, h1, Int.natAbs_mul]
  exact Nat.le_mul_of_pos_left _ (by omega)
theorem red_le2 {n d : Int} (hd : d ≠ 0) : (red n d).2.natAbs ≤ d.natAbs := by
  obtain ⟨s, g, a, b, hs, g0, _, h1, h2, hb, e, hg⟩ := red_parts (n := n) hd
  rw [e, ← natAbs_sgn (n := d) hs, h2, Int.natAbs_mul]
  exact Nat.le_mul_of_pos_left _ (by omega)
theorem dvd_cop {x y z : Int} (h : x ∣ y * z) (g : Int.gcd x z = 1) : x ∣ y := by
  rw [← Int.natAbs_dvd_natAbs, Int.natAbs_mul] at h
  rw [← Int.natAbs_dvd_natAbs]
  exact Nat.Coprime.dvd_of_dvd_mul_right g h
theorem low_unique {a b c e : Int} (hb : 0 < b) (he : 0 < e) (g1 : Int.gcd a b = 1) (g2 : Int.gcd c e = 1) (h : a * e = c * b) : a = c ∧ b = e := by
  have d1 : b ∣ e := by
    have : b ∣ e * a := ⟨c, by rw [Int.mul_comm e a, h, Int.mul_comm]⟩
    exact dvd_cop this (by rw [Int.gcd_comm]; exact g1)
  have d2 : e ∣ b := by
    have : e ∣ b * c := ⟨a, by rw [Int.mul_comm b c, ← h, Int.mul_comm]⟩
    exact dvd_cop this (by rw [Int.gcd_comm]; exact g2)
  have hbe : b = e := Int.dvd_antisymm (by omega) (by omega) d1 d2
  subst hbe
  exact ⟨Int.eq_of_mul_eq_mul_right (by omega) h, rfl⟩
theorem red_unique {n d a b : Int} (hd : d ≠ 0) (hb : 0 < b) (g : Int.gcd a b = 1) (h : a * d = n * b) : red n d = (a, b) := by
  have h1 := red_eq (n := n) hd
  have h2 : (red n d).1 * b = a * (red n d).2 := by
    apply Int.eq_of_mul_eq_mul_right hd
    calc (red n d).1 * b * d = ((red n d).1 * d) * b := by simp only [Int.mul_assoc, Int.mul_comm, Int.mul_left_comm]
      _ = (n * b) * (red n d).2 := by rw [h1]; simp only [Int.mul_assoc, Int.mul_comm, Int.mul_left_comm]
      _ = a * (red n d).2 * d := by rw [← h]; simp only [Int.mul_assoc, Int.mul_comm, Int.mul_left_comm]
  obtain ⟨e1, e2⟩ := low_unique (red_pos (n := n) hd) hb (red_gcd hd) g h2
  exact Prod.ext e1 e2
theorem red_self {n d : Int} (hd : 0 < d) (g : Int.gcd n d = 1) : red n d = (n, d) := red_unique (by omega) hd g rfl

/-- the fraction n / d, as a tuple -/
def Fr (K : PySem.W.Frag) (H : Hp) (v : V) (n d : Int) : Prop := ∃ p, v = .ref p ∧ SqT K H p [.int n, .int d]
theorem RgT {K : PySem.W.Frag} {H H' : Hp} {r p : Addr} {xs : List V} (R : Rg H r) (k : Kp r H H') (h : SqT K H p xs) : SqT K H' p xs := by
  obtain ⟨c, ns, i, x, kk, R⟩ := R
  rcases h with (h | ⟨o, h⟩) | h
  · exact .inl (.inl (k.1 _ _ (ne_of h R.hr (fun z => by cases z)) h))
  · exact .inl (.inr ⟨o, k.1 _ _ (ne_of h R.hr (fun z => by cases z)) h⟩)
  · exact .inr h
theorem Fr.kp {K : PySem.W.Frag} {H H' : Hp} {r : Addr} {v : V} {n d : Int} (f : Fr K H v n d) (R : Rg H r) (k : Kp r H H') : Fr K H' v n d := by
  obtain ⟨p, e, h⟩ := f
  exact ⟨p, e, RgT R k h⟩
theorem Fr.same {K : PySem.W.Frag} {H H' : Hp} {v : V} {n d : Int} (f : Fr K H v n d) (k : Same H H') : Fr K H' v n d := by
  obtain ⟨p, e, h⟩ := f
  exact ⟨p, e, Same.T k h⟩
theorem Fr.new {K : PySem.W.Frag} {H : Hp} {p : Addr} {n d : Int} : Fr K (upd H p (.tup [.int n, .int d])) (.ref p) n d := ⟨p, rfl, SqT.of upd_same⟩
/-- a fraction of the law's own: lowest terms, its size -/
structure FrB (K : PySem.W.Frag) (H : Hp) (v : V) (n d : Int) (B : Nat) : Prop where
  fr : Fr K H v n d
  d0 : 0 < d
  g : Int.gcd n d = 1
  nB : n.natAbs < 2 ^ B
  dB : d.natAbs < 2 ^ B
theorem FrB.kp {K : PySem.W.Frag} {H H' : Hp} {r : Addr} {v : V} {n d : Int} {B : Nat} (f : FrB K H v n d B) (R : Rg H r) (k : Kp r H H') : FrB K H' v n d B := ⟨f.fr.kp R k, f.d0, f.g, f.nB, f.dB⟩
theorem FrB.same {K : PySem.W.Frag} {H H' : Hp} {v : V} {n d : Int} {B : Nat} (f : FrB K H v n d B) (k : Same H H') : FrB K H' v n d B := ⟨f.fr.same k, f.d0, f.g, f.nB, f.dB⟩
theorem red_B {K : PySem.W.Frag} {H : Hp} {p : Addr} {n d : Int} {B : Nat} (hd : d ≠ 0) (h1 : n.natAbs < 2 ^ B) (h2 : d.natAbs < 2 ^ B) : FrB K (upd H p (.tup [.int (red n d).1, .int (red n d).2])) (.ref p) (red n d).1 (red n d).2 B :=
  ⟨Fr.new, red_pos hd, red_gcd hd, Nat.lt_of_le_of_lt (red_le1 hd) h1, Nat.lt_of_le_of_lt (red_le2 hd) h2⟩
theorem log2_lt {j : Int} {b : Nat} (hb : j.natAbs < 2 ^ b) (h0 : 0 < b) (h9 : b ≤ 9000) : j.natAbs.log2 < 9000 := Nat.lt_of_lt_of_le (PySem.Flt.log2_lt_of h0 hb) h9
/-! ### equal data -/
def atom : V → Bool
  | .non => true | .bl _ => true | .int _ => true | .str _ => true | _ => false
def Eqd (K : PySem.W.Frag) (H : Hp) : Nat → V → V → Prop
  | 0, x, y => x = y ∧ atom x = true
  | n + 1, x, y => (x = y ∧ atom x = true) ∨ ∃ a b xs ys, x = .ref a ∧ y = .ref b ∧ ((SqL K H a xs ∧ SqL K H b ys) ∨ (SqT K H a xs ∧ SqT K H b ys)) ∧ xs.length = ys.length ∧ xs.length ≤ 100000 ∧ ∀ (i : Nat) u v, xs[i]? = some u → ys[i]? = some v → Eqd K H n u v
theorem Eqd.same {K : PySem.W.Frag} {H H' : Hp} (s : Same H H') : ∀ {n : Nat} {x y : V}, Eqd K H n x y → Eqd K H' n x y
  | 0, _, _, h => h
  | n + 1, _, _, .inl h => .inl h
  | n + 1, _, _, .inr ⟨a, b, xs, ys, e1, e2, h, l, l2, k⟩ => .inr ⟨a, b, xs, ys, e1, e2, h.elim (fun z => .inl ⟨s.seq z.1, s.seq z.2⟩) (fun z => .inr ⟨Same.T s z.1, Same.T s z.2⟩), l, l2, fun i u v hu hv => Eqd.same s (k i u v hu hv)⟩
theorem Eqd.up {K : PySem.W.Frag} {H : Hp} : ∀ {n : Nat} {x y : V}, Eqd K H n x y → Eqd K H (n + 1) x y
  | 0, _, _, h => .inl h
  | n + 1, _, _, .inl h => .inl h
  | n + 1, _, _, .inr ⟨a, b, xs, ys, e1, e2, h, l, l2, k⟩ => .inr ⟨a, b, xs, ys, e1, e2, h, l, l2, fun i u v hu hv => Eqd.up (k i u v hu hv)⟩
theorem Eqd.mono {K : PySem.W.Frag} {H : Hp} {n m : Nat} {x y : V} (h : Eqd K H n x y) (l : n ≤ m) : Eqd K H m x y := by
  induction l with
  | refl => exact h
  | step _ ih => exact ih.up
theorem Eqd.atom {K : PySem.W.Frag} {H : Hp} {n : Nat} {x : V} (h : atom x = true) : Eqd K H n x x := by
  cases n with
  | zero => exact ⟨rfl, h⟩
  | succ n => exact .inl ⟨rfl, h⟩
theorem all2_nil {R : V → V → Prop} : ∀ (i : Nat) u v, ([] : List V)[i]? = some u → ([] : List V)[i]? = some v → R u v := fun i u v h => by cases h
theorem all2_cons {R : V → V → Prop} {x y : V} {xs ys : List V} (h : R x y) (k : ∀ (i : Nat) u v, xs[i]? = some u → ys[i]? = some v → R u v) : ∀ (i : Nat) u v, (x :: xs)[i]? = some u → (y :: ys)[i]? = some v → R u v
  | 0, u, v, h1, h2 => by cases h1; cases h2; exact h
  | i + 1, u, v, h1, h2 => k i u v h1 h2
theorem Eqd.lst {K : PySem.W.Frag} {H : Hp} {n : Nat} {a b : Addr} {xs ys : List V} (h1 : SqL K H a xs) (h2 : SqL K H b ys) (l : xs.length = ys.length) (l2 : xs.length ≤ 100000) (k : ∀ (i : Nat) u v, xs[i]? = some u → ys[i]? = some v → Eqd K H n u v) : Eqd K H (n + 1) (.ref a) (.ref b) :=
  .inr ⟨a, b, xs, ys, rfl, rfl, .inl ⟨h1, h2⟩, l, l2, k⟩
theorem Eqd.tup {K : PySem.W.Frag} {H : Hp} {n : Nat} {a b : Addr} {xs ys : List V} (h1 : SqT K H a xs) (h2 : SqT K H b ys) (l : xs.length = ys.length) (l2 : xs.length ≤ 100000) (k : ∀ (i : Nat) u v, xs[i]? = some u → ys[i]? = some v → Eqd K H n u v) : Eqd K H (n + 1) (.ref a) (.ref b) :=
  .inr ⟨a, b, xs, ys, rfl, rfl, .inr ⟨h1, h2⟩, l, l2, k⟩
theorem tyL {K : PySem.W.Frag} {H : Hp} {a : Addr} {xs : List V} (h : SqL K H a xs) : TyX K H (.ref a) (.type "list") := by
  rcases h with (h | ⟨o, h⟩) | ⟨o, its, n, h, c, _⟩
  · exact .base (.lst h)
  · exact .base (.frz h)
  · exact .kList h c
theorem tyT {K : PySem.W.Frag} {H : Hp} {a : Addr} {xs : List V} (h : SqT K H a xs) : TyX K H (.ref a) (.type "tuple") := by
  rcases h with (h | ⟨o, h⟩) | ⟨o, its, n, h, c, _⟩
  · exact .base (.tup h)
  · exact .fTuple h
  · exact .kTuple h c
theorem rd_isi {K : PySem.W.Frag} {H : Hp} {x : V} {t c : String} {b : Bool} {Q : VK} (ty : TyX K H x (.type t)) (h : kitB t c = some b) (w : Q (.bl b) H) : rIsi K [x, .ty c] H Q := ⟨x, .ty c, .type t, .type c, b, rfl, .ty c, ty, kit_ty h, w⟩
theorem ifF {c : Bool} {A B : Prop} (hc : c = false) (h : B) : if c = true then A else B := by rw [hc, if_neg Bool.false_ne_true]; exact h
theorem ifT {c : Bool} {A B : Prop} (hc : c = true) (h : A) : if c = true then A else B := by rw [if_pos hc]; exact h
theorem fn_false {P : Program} {w : World} {K : PySem.W.Frag} {mg : Str → Option Value} {base : Heap} {CX : CXT} {k : Nat} {f : Addr} {fd : FuncData} {ps : List Str} : FnOk P w K mg base CX k f fd ps (fun _ _ _ _ => False) :=
  ⟨fun _ _ _ _ h => h.elim, fun _ _ _ _ _ _ _ _ _ _ _ _ _ h => h.elim⟩
theorem tYes_if {σ : L2.St} {H : Hp} {A B : Hp → Prop} (h : A H) : tYes σ H fun b H3 => if b = true then A H3 else B H3 := by
  show (if true = true then A H else B H)
  rw [if_pos rfl]
  exact h
/-! ### f(k = v, ..), nothing by position -/
def tCallN0 (m : Nat) (sp : Sp) (gV : List V → List V → List V) (E : XK) (tk : TA) : TE := fun σ H Q => tk σ H fun zs H2 => zs.length = m ∧ sp (gV [] zs) H2 Q E
theorem pe_callN0 {X : Cx} {CX : CXT} {k : Nat} {f : Addr} {fd : FuncData} {ps ks : List Str} {sp : Sp} {E : XK} {x : Str} {p pos : Pos} {kws : List Keyword} {tk : TA} {g : List Value → List Value → List Value} {gV : List V → List V → List V}
    (F : FnOk X.prog X.w X.K X.mg X.base CX k f fd ps sp) (hr : Room k X.A) (hg : Gl X x) (hm : X.mg x = some (.ref f)) (hk : PySem.W.keepIn X.K (.ref f) = true) (hb : KBn X.K fd ps 0 ks g gV) (hx : Passes CX X E)
    (hkw : PK X kws tk) (hall : (backToKw pos (keywordEach kws X.env)).all (·.1.isSome) = true := by rfl) (hks : (backToKw pos (keywordEach kws X.env)).filterMap (·.1) = ks := by rfl)
    (hdb : (x == ("__debug__" : Str)) = false := by decide) (hpl : ((backTo pos (starEach [] X.env)).any (·.1) || (backToKw pos (keywordEach kws X.env)).any (·.1.isNone)) = false := by rfl) :
    PE X (.Call (.Name x p) [] kws pos) (tCallN0 ks.length sp gV E tk) := by
  refine ⟨fun pins s σ H Q I h => ?_⟩
  refine wpAny_Call_Name_kw (ld_glob I hg hm ?_ hdb)
  refine PySem.W.callWith_KW0 (h₀ := X.base) I.ok.mod.kin hk hall (thn (hkw.run pos pins s σ H _ I h) fun ws s2 ⟨zs, H2, I2, rz, l2, q2⟩ => ⟨I2.kIn, ?_⟩) hpl
  rw [hks]
  exact run_fnN (us := []) (vs := []) F hr hb hx I2 .nil rz rfl l2 q2
theorem FunD.ok0 {P : Program} {w : World} {K : PySem.W.Frag} {mg : Str → Option Value} {base : Heap} {x qual : Str} {params : Arguments} {body : List Stmt} {scope : Scope} {dvs : List V} {kws : List (Str × V)} {f : Addr} {fd : FuncData} {N ps : List Str} {k : Nat} {sp : Sp}
    (F : FunD K x qual params body scope dvs kws f fd) (S : FnScope N ps scope) (len : ∀ vs H Q E, sp vs H Q E → vs.length = ps.length)
    (hbody : ∀ (cdv : Value) (A : Around) (outer : List Env) (s : Shared) (H : Hp) (vs : List V) (Q : VK) (E : XK), Room k (A.deeper (envOfC qual scope s.heap.objs.size f cdv)) → sp vs H Q E →
      ∃ t, PSs (cxOf CX0 P w K mg base N qual scope f cdv A outer s H E).nox body t ∧ t { nx := fun _ H' => Q .non H', rt := Q } (start N vs) H) : FnOk P w K mg base CX0 (k + 1) f fd ps sp :=
  F.ok S len fun cdv A outer s H vs Q E hr h => by
    obtain ⟨t, a, b⟩ := hbody cdv A outer s H vs Q E hr h
    exact ⟨t, a.nox, b⟩
theorem u65 {k : Nat} {A : Around} (r : Room k A) : A.units + 65 < cLine := by have := r.un; omega
theorem u2 {k : Nat} {A : Around} (r : Room k A) : A.units + 1 < cLine := by have := r.un; omega
theorem ixT {X : Cx} {K : PySem.W.Frag} (h : X.K = K) : IxR X (rIxT K) := by subst h; exact ix_tup
theorem ixL {X : Cx} {K : PySem.W.Frag} (h : X.K = K) : IxR X (rIxL K) := by subst h; exact ix_list
theorem ixS {X : Cx} {K : PySem.W.Frag} (h : X.K = K) : IxR X (rIx K) := by subst h; exact ix_seq
theorem crSumK {X : Cx} {K : PySem.W.Frag} (hc : X.calm = true) (h : X.K = K) : CallR X (.builtin "sum") (rSum K) := by subst h; exact cr_sum hc
theorem callLenK {X : Cx} {K : PySem.W.Frag} (h : X.K = K) : CallR X (.builtin "len") (fun xs H Q => ∃ x n, xs = [x] ∧ LenV K x H n ∧ Q (.int n) H) := by subst h; exact call_len
theorem go_name {i : Nat} {v : V} {σ : L2.St} {H : Hp} {Q : L2.St → Hp → Prop} (h : Q (σ.set i (some v)) H) : gName i v σ H Q := h
theorem go_next {D : Ends} {σ : L2.St} {H : Hp} (h : D.nx σ H) : tNext D σ H := h
theorem go_seq {t u : TS} {D : Ends} {σ : L2.St} {H : Hp} (h : t { D with nx := u D } σ H) : tSeq t u D σ H := h
theorem go_asg {te : TE} {g : TG} {D : Ends} {σ : L2.St} {H : Hp} (h : te σ H fun x H1 => g x σ H1 D.nx) : tAsg te g D σ H := h
theorem both {te : TE} {σ : L2.St} {H : Hp} {Q : VK} (F : V → Hp → Prop) (main : ∀ v H', F v H' → Q v H') (step : ∀ Q' : VK, (∀ v H', F v H' → Q' v H') → te σ H Q') : te σ H Q := step Q main
theorem piLK {X : Cx} {K : PySem.W.Frag} {tg e : Expr} {t : TE} (h : X.K = K) (he : PE X e t) : PI X tg e (iList K t) := by subst h; exact pi_list he
theorem piTK {X : Cx} {K : PySem.W.Frag} {tg e : Expr} {t : TE} (h : X.K = K) (he : PE X e t) : PI X tg e (iTup K t) := by subst h; exact pi_tup he

theorem pss_absurd {X : Cx} {b : List Stmt} : PSs X b (fun _ _ _ => False) := ⟨fun _ _ _ _ _ _ h => h.elim⟩
theorem takesN {X : Cx} : L2N.Takes X (fun _ _ _ _ => False) := fun _ _ x => by
  obtain ⟨_, _, _, _, _, _, _, _, _, _, _, _, _, _, _, _, z⟩ := x
  exact z.elim
theorem taker_of {K : PySem.W.Frag} {C : Addr} {f : Str} (h : PySem.W.findIn K (.ref C) f = some none) : PySem.W.takerIn K C f = some none := by
  unfold PySem.W.takerIn
  rw [h]
  rfl
/-- behind C(..): what stood stands -/
theorem Same.made {H : Hp} {x d : Addr} {C : Addr} {o1 : HO} {o2 : HO} {o3 : HO} {fs : List (Str × V)} (nx : H x = none) (nd : H d = none) : Same H (upd (del (upd (upd (upd H x o1) d o2) x o3) x) d (.xd fs)) := fun b o e => by
  have h1 := ne_of_none e nx
  have h2 := ne_of_none e nd
  rw [upd_ne h2, del_ne h1, upd_ne h1, upd_ne h2, upd_ne h1]
  exact e
theorem em2 {K : PySem.W.Frag} {cls c1 c2 : Value} {b1 b2 : Bool} (h1 : PySem.W.exmOne K cls c1 = some b1) (h2 : PySem.W.exmOne K cls c2 = some b2) : PySem.W.exmAny K cls [c1, c2] = some (b1 || (b2 || false)) := by
  unfold PySem.W.exmAny PySem.W.exmAny PySem.W.exmAny
  rw [h1, h2]
/-! ### the tables of code objects -/
theorem ExtN.L {K : PySem.W.Frag} {H H' : Hp} {x : Addr} {xs : List V} (k : LamX.ExtN H H') (h : SqL K H x xs) : SqL K H' x xs := by
  rcases h with (h | ⟨o, h⟩) | h
  · exact .inl (.inl (k _ _ h (fun ps z => by cases z)))
  · exact .inl (.inr ⟨o, k _ _ h (fun ps z => by cases z)⟩)
  · exact .inr h
theorem ExtN.T {K : PySem.W.Frag} {H H' : Hp} {x : Addr} {xs : List V} (k : LamX.ExtN H H') (h : SqT K H x xs) : SqT K H' x xs := by
  rcases h with (h | ⟨o, h⟩) | h
  · exact .inl (.inl (k _ _ h (fun ps z => by cases z)))
  · exact .inl (.inr ⟨o, k _ _ h (fun ps z => by cases z)⟩)
  · exact .inr h
theorem ExtN.rg {H H' : Hp} {r : Addr} (k : LamX.ExtN H H') (R : Rg H r) : Rg H' r := by
  obtain ⟨c, ns, i, x, kk, R⟩ := R
  exact ⟨c, ns, i, x, kk, k _ _ R.hr (fun ps z => by cases z), k _ _ R.hc (fun ps z => by cases z), R.i0, R.i1, R.x0, R.k0, R.k1⟩
theorem ExtN.fr {K : PySem.W.Frag} {H H' : Hp} {v : V} {n d : Int} (k : LamX.ExtN H H') (f : Fr K H v n d) : Fr K H' v n d := by
  obtain ⟨p, e, h⟩ := f
  exact ⟨p, e, ExtN.T k h⟩
theorem Tabs.kp {T : List (Addr × Str)} {H H' : Hp} {r : Addr} (t : LamX.Tabs T H) (R : Rg H r) (k : Kp r H H') : LamX.Tabs T H' := fun p hp => by
  obtain ⟨c, ns, i, x, kk, R⟩ := R
  obtain ⟨ps, h1, h2, h3⟩ := t p hp
  refine ⟨ps, k.1 _ _ (ne_of h1 R.hr (fun z => by cases z)) h1, h2, fun pos cv hc => ?_⟩
  obtain ⟨c2, e1, e2⟩ := h3 pos cv hc
  exact ⟨c2, e1, k.1 _ _ (ne_of e2 R.hr (fun z => by unfold LamX.CodeO at z; cases z)) e2⟩
theorem Tabs.same {T : List (Addr × Str)} {H H' : Hp} (t : LamX.Tabs T H) (s : Same H H') : LamX.Tabs T H' := t.ext s
theorem Eqd.tup3 {K : PySem.W.Frag} {H : Hp} {n : Nat} {p q : Addr} {x1 x2 x3 y1 y2 y3 : V} (h1 : SqT K H p [x1, x2, x3]) (h2 : SqT K H q [y1, y2, y3]) (e1 : Eqd K H n x1 y1) (e2 : Eqd K H n x2 y2) (e3 : Eqd K H n x3 y3) : Eqd K H (n + 1) (.ref p) (.ref q) :=
  Eqd.tup h1 h2 rfl (by show 3 ≤ 100000; decide) (all2_cons e1 (all2_cons e2 (all2_cons e3 all2_nil)))
theorem Eqd.fr1 {K : PySem.W.Frag} {H : Hp} {v u : V} {n d : Int} (a : Fr K H v n d) (b : Fr K H u n d) : Eqd K H 1 v u := by
  obtain ⟨p, rfl, hp⟩ := a
  obtain ⟨q, rfl, hq⟩ := b
  exact Eqd.tup (n := 0) hp hq rfl (by show 2 ≤ 100000; decide) (all2_cons (Eqd.atom rfl) (all2_cons (Eqd.atom rfl) all2_nil))
/-- what is expected of a call that may raise ZeroDenominator: z tells that it does, f its answer else -/
def ExpQ (K : PySem.W.Frag) (H : Hp) (z : Prop) (f : Int × Int) (ev : V) : Prop := ∃ e, ev = .ref e ∧ ((z ∧ SqT K H e [.non, .str "ZeroDenominator", .non]) ∨ (¬ z ∧ ∃ u, SqT K H e [u, .str "", .non] ∧ Fr K H u f.1 f.2))
theorem ExpQ.same {K : PySem.W.Frag} {H H' : Hp} {z : Prop} {f : Int × Int} {ev : V} (h : ExpQ K H z f ev) (s : Same H H') : ExpQ K H' z f ev := by
  obtain ⟨e, rfl, ⟨hz, h⟩ | ⟨hz, u, h1, h2⟩⟩ := h
  · exact ⟨e, rfl, .inl ⟨hz, Same.T s h⟩⟩
  · exact ⟨e, rfl, .inr ⟨hz, u, Same.T s h1, h2.same s⟩⟩
theorem ExpQ.ext {K : PySem.W.Frag} {H H' : Hp} {z : Prop} {f : Int × Int} {ev : V} (h : ExpQ K H z f ev) (s : LamX.ExtN H H') : ExpQ K H' z f ev := by
  obtain ⟨e, rfl, ⟨hz, h⟩ | ⟨hz, u, h1, h2⟩⟩ := h
  · exact ⟨e, rfl, .inl ⟨hz, ExtN.T s h⟩⟩
  · exact ⟨e, rfl, .inr ⟨hz, u, ExtN.T s h1, ExtN.fr s h2⟩⟩
theorem ExtN.frB {K : PySem.W.Frag} {H H' : Hp} {v : V} {n d : Int} {B : Nat} (k : LamX.ExtN H H') (f : FrB K H v n d B) : FrB K H' v n d B := ⟨ExtN.fr k f.fr, f.d0, f.g, f.nB, f.dB⟩
/-! ### names -/
def kws4 : List V := [.str "max", .str "min", .str "median", .str "mix"]
def lowB (c : Nat) : Bool := decide (97 ≤ c) && decide (c ≤ 122)
def nameB (z : Str) : Bool := (decide (1 ≤ z.length) && decide (z.length ≤ 6)) && (z.cps.toList.all lowB && !inV (.str z) kws4)
theorem one_lt {c d : Nat} : ([c] < [d]) ↔ c < d := by simp [List.cons_lt_cons_iff]
theorem str_a : (("a" : Str)).cps.toList = [97] := by decide +kernel
theorem str_z : (("z" : Str)).cps.toList = [122] := by decide +kernel
theorem le_a {c : Nat} : (!decide ((⟨#[c]⟩ : Str).cps.toList < ("a" : Str).cps.toList)) = decide (97 ≤ c) := by
  rw [str_a]
  show (!decide ([c] < [97])) = _
  by_cases h : c < 97
  · rw [decide_eq_true (one_lt.mpr h), decide_eq_false (by omega)]; rfl
  · rw [decide_eq_false (fun z => h (one_lt.mp z)), decide_eq_true (by omega)]; rfl
theorem le_z {c : Nat} : (!decide (("z" : Str).cps.toList < (⟨#[c]⟩ : Str).cps.toList)) = decide (c ≤ 122) := by
  rw [str_z]
  show (!decide ([122] < [c])) = _
  by_cases h : 122 < c
  · rw [decide_eq_true (one_lt.mpr h), decide_eq_false (by omega)]; rfl
  · rw [decide_eq_false (fun z => h (one_lt.mp z)), decide_eq_true (by omega)]; rfl
theorem abc_mem {c : Nat} : decide (c ∈ (("abcdefghijklmnopqrstuvwxyz" : Str)).cps.toList) = lowB c := by
  have e : (("abcdefghijklmnopqrstuvwxyz" : Str)).cps.toList = (List.range 26).map (· + 97) := by decide +kernel
  rw [e]
  unfold lowB
  by_cases h : 97 ≤ c ∧ c ≤ 122
  · rw [decide_eq_true h.1, decide_eq_true h.2]
    exact decide_eq_true (List.mem_map.mpr ⟨c - 97, by rw [List.mem_range]; omega, by omega⟩)
  · have z : (decide (97 ≤ c) && decide (c ≤ 122)) = false := by
      cases h1 : decide (97 ≤ c) <;> cases h2 : decide (c ≤ 122)
      · rfl
      · rfl
      · rfl
      · exact absurd ⟨of_decide_eq_true h1, of_decide_eq_true h2⟩ h
    rw [z]
    refine decide_eq_false fun hm => ?_
    obtain ⟨x, hx, e⟩ := List.mem_map.mp hm
    rw [List.mem_range] at hx
    omega
theorem tk_more {α β : Type} {f : α → β} {l : List α} {i : Nat} {c : α} (h : l[i]? = some c) : ((l.take (i + 1)).map f) = (l.take i).map f ++ [f c] := by
  rw [List.take_add_one, h, List.map_append]
  rfl
theorem cps_len (z : Str) : z.cps.toList.length = z.length := by simp [Str.length]
theorem gcd_fmod {a b : Int} : Int.gcd b (a.fmod b) = Int.gcd a b := by
  rw [Int.fmod_def, Int.gcd_sub_mul_left_right, Int.gcd_comm]
theorem fmod_lt {a b : Int} (hb : b ≠ 0) : (a.fmod b).natAbs < b.natAbs := by
  have pos : ∀ x y : Int, 0 < y → (x.fmod y).natAbs < y.natAbs := fun x y h => by
    rw [Int.fmod_eq_emod_of_nonneg x (by omega)]
    have h1 := Int.emod_nonneg x (show y ≠ 0 by omega)
    have h2 := Int.emod_lt_of_pos x h
    omega
  rcases Int.lt_or_lt_of_ne hb with h | h
  · have e := pos (-a) (-b) (by omega)
    rw [Int.neg_fmod_neg] at e
    omega
  · exact pos a b h
theorem frac_red {n d : Int} (hd : d ≠ 0) : (n.fdiv (if d < 0 then -(Int.gcd n d : Int) else (Int.gcd n d : Int)), d.fdiv (if d < 0 then -(Int.gcd n d : Int) else (Int.gcd n d : Int))) = red n d := by
  have g0 := gcd_posI (n := n) hd
  have d1 := Int.gcd_dvd_left n d
  have d2 := Int.gcd_dvd_right n d
  unfold red
  generalize (Int.gcd n d : Int) = g at *
  by_cases h : d < 0
  · rw [if_pos h, if_neg (show ¬ d > 0 by omega), Int.fdiv_eq_ediv_of_dvd (Int.neg_dvd.mpr d1), Int.fdiv_eq_ediv_of_dvd (Int.neg_dvd.mpr d2), Int.ediv_neg, Int.ediv_neg]
    rw [show (-1 : Int) * n = -n by omega, show (-1 : Int) * d = -d by omega, Int.neg_ediv_of_dvd d1, Int.neg_ediv_of_dvd d2]
  · rw [if_neg h, if_pos (show d > 0 by omega), Int.fdiv_eq_ediv_of_dvd d1, Int.fdiv_eq_ediv_of_dvd d2, Int.one_mul, Int.one_mul]
theorem red_congr {n d n' d' : Int} (hd : d ≠ 0) (hd' : d' ≠ 0) (h : n * d' = n' * d) : red n d = red n' d' := by
  refine red_unique hd (red_pos hd') (red_gcd hd') ?_
  have e := red_eq (n := n') hd'
  apply Int.eq_of_mul_eq_mul_right hd'
  calc (red n' d').1 * d * d' = ((red n' d').1 * d') * d := by grind
    _ = n' * d * (red n' d').2 := by rw [e]; grind
    _ = n * (red n' d').2 * d' := by rw [← h]; grind
/-! ### sums -/
abbrev QQ := Int × Int
def Low (a : QQ) : Prop := 0 < a.2 ∧ Int.gcd a.1 a.2 = 1
def radd (a b : QQ) : QQ := red (a.1 * b.2 + b.1 * a.2) (a.2 * b.2)
theorem pos_ne {a b : Int} (ha : 0 < a) (hb : 0 < b) : a * b ≠ 0 := Int.ne_of_gt (Int.mul_pos ha hb)
theorem low_red {n d : Int} (hd : d ≠ 0) : Low (red n d) := ⟨red_pos hd, red_gcd hd⟩
theorem low_add {a b : QQ} (ha : Low a) (hb : Low b) : Low (radd a b) := low_red (pos_ne ha.1 hb.1)
theorem radd_eq {a b : QQ} (ha : Low a) (hb : Low b) : (radd a b).1 * (a.2 * b.2) = (a.1 * b.2 + b.1 * a.2) * (radd a b).2 := red_eq (pos_ne ha.1 hb.1)
theorem radd_assoc {a b c : QQ} (ha : Low a) (hb : Low b) (hc : Low c) : radd (radd a b) c = radd a (radd b c) := by
  have lab := low_add ha hb
  have lbc := low_add hb hc
  have e1 := radd_eq ha hb
  have e2 := radd_eq hb hc
  show red _ _ = red _ _
  refine (red_congr (n' := a.1 * b.2 * c.2 + b.1 * a.2 * c.2 + c.1 * a.2 * b.2) (d' := a.2 * b.2 * c.2) (pos_ne lab.1 hc.1) (Int.ne_of_gt (Int.mul_pos (Int.mul_pos ha.1 hb.1) hc.1)) ?_).trans (red_congr (pos_ne ha.1 lbc.1) (Int.ne_of_gt (Int.mul_pos (Int.mul_pos ha.1 hb.1) hc.1)) ?_).symm
  · generalize radd a b = x at *
    grind
  · generalize radd b c = x at *
    grind
theorem radd_zero {b : QQ} (hb : Low b) : radd b (0, 1) = b := by
  show red (b.1 * 1 + 0 * b.2) (b.2 * 1) = b
  rw [show b.1 * 1 + 0 * b.2 = b.1 by omega, show b.2 * 1 = b.2 by omega]
  exact red_self hb.1 hb.2
theorem zero_radd {b : QQ} (hb : Low b) : radd (0, 1) b = b := by
  show red (0 * b.2 + b.1 * 1) (1 * b.2) = b
  rw [show 0 * b.2 + b.1 * 1 = b.1 by omega, show 1 * b.2 = b.2 by omega]
  exact red_self hb.1 hb.2
theorem low0 : Low (0, 1) := ⟨by decide, by decide⟩
theorem low_sum : ∀ {fs : List QQ} {s : QQ}, Low s → (∀ f ∈ fs, Low f) → Low (fs.foldl radd s)
  | [], _, h, _ => h
  | f :: fs, s, h, k => low_sum (fs := fs) (s := radd s f) (low_add h (k f List.mem_cons_self)) fun g hg => k g (List.mem_cons_of_mem _ hg)
theorem sum_from : ∀ {fs : List QQ} {s : QQ}, Low s → (∀ f ∈ fs, Low f) → fs.foldl radd s = radd s (fs.foldl radd (0, 1))
  | [], s, h, _ => (radd_zero h).symm
  | f :: fs, s, h, k => by
    have hf := k f List.mem_cons_self
    have kk : ∀ g ∈ fs, Low g := fun g hg => k g (List.mem_cons_of_mem _ hg)
    show fs.foldl radd (radd s f) = radd s (fs.foldl radd (radd (0, 1) f))
    rw [sum_from (low_add h hf) kk, zero_radd hf, sum_from hf kk, radd_assoc h hf (low_sum low0 kk)]
theorem add_bd {a b : QQ} {A B : Nat} (ha : 0 < a.2) (hb : 0 < b.2) (a1 : a.1.natAbs < 2 ^ A) (a2 : a.2.natAbs < 2 ^ A) (b1 : b.1.natAbs < 2 ^ B) (b2 : b.2.natAbs < 2 ^ B) : (radd a b).1.natAbs < 2 ^ (A + B + 1) ∧ (radd a b).2.natAbs < 2 ^ (A + B + 1) := by
  have hd : a.2 * b.2 ≠ 0 := pos_ne ha hb
  have m1 : (a.1 * b.2).natAbs < 2 ^ (A + B) := by rw [Int.natAbs_mul, Nat.pow_add]; exact Nat.mul_lt_mul'' a1 b2
  have m2 : (b.1 * a.2).natAbs < 2 ^ (A + B) := by rw [Int.natAbs_mul, Nat.pow_add, Nat.mul_comm]; exact Nat.mul_lt_mul'' a2 b1
  have m3 : (a.2 * b.2).natAbs < 2 ^ (A + B) := by rw [Int.natAbs_mul, Nat.pow_add]; exact Nat.mul_lt_mul'' a2 b2
  have e : (2 : Nat) ^ (A + B + 1) = 2 ^ (A + B) * 2 := Nat.pow_succ ..
  have n1 : (radd a b).1.natAbs ≤ (a.1 * b.2 + b.1 * a.2).natAbs := red_le1 hd
  have n2 : (radd a b).2.natAbs ≤ (a.2 * b.2).natAbs := red_le2 hd
  have n3 := Int.natAbs_add_le (a.1 * b.2) (b.1 * a.2)
  omega
/-! ### extremes -/
def rlt (a b : QQ) : Bool := decide (a.1 * b.2 < b.1 * a.2)
theorem rlt_same {a b : QQ} (ha : Low a) (hb : Low b) (h1 : rlt a b = false) (h2 : rlt b a = false) : a = b := by
  have e1 : ¬ a.1 * b.2 < b.1 * a.2 := of_decide_eq_false h1
  have e2 : ¬ b.1 * a.2 < a.1 * b.2 := of_decide_eq_false h2
  obtain ⟨x, y⟩ := low_unique ha.1 hb.1 ha.2 hb.2 (by omega)
  exact Prod.ext x y
theorem rlt_irr {a : QQ} : rlt a a = false := decide_eq_false (by omega)
theorem rlt_trans' {a b c : QQ} (ha : 0 < a.2) (hb : 0 < b.2) (hc : 0 < c.2) (h1 : rlt a b = true) (h2 : rlt c b = false) : rlt a c = true := by
  have e1 : a.1 * b.2 < b.1 * a.2 := of_decide_eq_true h1
  have e2 : ¬ c.1 * b.2 < b.1 * c.2 := of_decide_eq_false h2
  refine decide_eq_true ?_
  have k1 : a.1 * b.2 * c.2 < b.1 * a.2 * c.2 := Int.mul_lt_mul_of_pos_right e1 hc
  have k2 : b.1 * c.2 * a.2 ≤ c.1 * b.2 * a.2 := Int.mul_le_mul_of_nonneg_right (by omega) (by omega)
  have k3 : a.1 * c.2 * b.2 < c.1 * a.2 * b.2 := by
    have q1 : a.1 * c.2 * b.2 = a.1 * b.2 * c.2 := by grind
    have q2 : c.1 * a.2 * b.2 = c.1 * b.2 * a.2 := by grind
    have q3 : b.1 * a.2 * c.2 = b.1 * c.2 * a.2 := by grind
    omega
  exact Int.lt_of_mul_lt_mul_right k3 (by omega)

def Frs (K : PySem.W.Frag) (H : Hp) (xs : List V) (fs : List QQ) (B : Nat) : Prop := xs.length = fs.length ∧ ∀ (i : Nat) x f, xs[i]? = some x → fs[i]? = some f → FrB K H x f.1 f.2 B
theorem Frs.same {K : PySem.W.Frag} {H H' : Hp} {xs : List V} {fs : List QQ} {B : Nat} (h : Frs K H xs fs B) (s : Same H H') : Frs K H' xs fs B := ⟨h.1, fun i x f a b => (h.2 i x f a b).same s⟩
theorem Frs.kp {K : PySem.W.Frag} {H H' : Hp} {r : Addr} {xs : List V} {fs : List QQ} {B : Nat} (h : Frs K H xs fs B) (R : Rg H r) (k : Kp r H H') : Frs K H' xs fs B := ⟨h.1, fun i x f a b => (h.2 i x f a b).kp R k⟩
theorem Frs.low {K : PySem.W.Frag} {H : Hp} {xs : List V} {fs : List QQ} {B : Nat} (h : Frs K H xs fs B) : ∀ f ∈ fs, Low f := fun f hf => by
  obtain ⟨i, hi, e⟩ := List.getElem_of_mem hf
  have hx : xs[i]? = some (xs[i]'(by rw [h.1]; exact hi)) := List.getElem?_eq_getElem _
  have z := h.2 i _ f hx (by rw [List.getElem?_eq_getElem hi, e])
  exact ⟨z.d0, z.g⟩
theorem Frs.at {K : PySem.W.Frag} {H : Hp} {xs : List V} {fs : List QQ} {B : Nat} (h : Frs K H xs fs B) {i : Nat} {x : V} (hx : xs[i]? = some x) : ∃ f, fs[i]? = some f ∧ FrB K H x f.1 f.2 B := by
  have hi : i < fs.length := by rw [← h.1]; exact (List.getElem?_eq_some_iff.mp hx).1
  exact ⟨fs[i], List.getElem?_eq_getElem hi, h.2 i x _ hx (List.getElem?_eq_getElem hi)⟩
def Sq (K : PySem.W.Frag) (H : Hp) (p : Addr) (xs : List V) : Prop := SqL K H p xs ∨ SqT K H p xs
theorem Sq.same {K : PySem.W.Frag} {H H' : Hp} {p : Addr} {xs : List V} (h : Sq K H p xs) (s : Same H H') : Sq K H' p xs := h.elim (fun z => .inl (s.seq z)) fun z => .inr (Same.T s z)
theorem FrB.up' {K : PySem.W.Frag} {H : Hp} {v : V} {n d : Int} {B C : Nat} (f : FrB K H v n d B) (h : B ≤ C) : FrB K H v n d C := ⟨f.fr, f.d0, f.g, Nat.lt_of_lt_of_le f.nB (Nat.pow_le_pow_right (by decide) h), Nat.lt_of_lt_of_le f.dB (Nat.pow_le_pow_right (by decide) h)⟩
theorem FrB.low {K : PySem.W.Frag} {H : Hp} {v : V} {f : QQ} {B : Nat} (h : FrB K H v f.1 f.2 B) : Low f := ⟨h.d0, h.g⟩
theorem FrB.add {K : PySem.W.Frag} {H : Hp} {v1 v2 : V} {a b : QQ} {A B : Nat} {p : Addr} (ha : FrB K H v1 a.1 a.2 A) (hb : FrB K H v2 b.1 b.2 B) : FrB K (upd H p (.tup [.int (radd a b).1, .int (radd a b).2])) (.ref p) (radd a b).1 (radd a b).2 (A + B + 1) := by
  have l := low_add ha.low hb.low
  have bd := add_bd ha.d0 hb.d0 ha.nB ha.dB hb.nB hb.dB
  exact ⟨Fr.new, l.1, l.2, bd.1, bd.2⟩
theorem mulW {a b : Int} {A : Nat} (ha : a.natAbs < 2 ^ A) (hb : b.natAbs < 2 ^ A) (h0 : 0 < A) (h1 : A ≤ 500000) : CMulW a b := wide_mul ha hb h0 h0 (by omega)
def spAdd (K : PySem.W.Frag) : Sp := fun vs H Q _ => ∃ (v1 v2 : V) (a b : QQ), vs = [v1, v2] ∧ FrB K H v1 a.1 a.2 3000 ∧ FrB K H v2 b.1 b.2 3000 ∧ ∀ p, H p = none → Q (.ref p) (upd H p (.tup [.int (radd a b).1, .int (radd a b).2]))
def spLess (K : PySem.W.Frag) : Sp := fun vs H Q _ => ∃ (v1 v2 : V) (a b : QQ), vs = [v1, v2] ∧ FrB K H v1 a.1 a.2 20000 ∧ FrB K H v2 b.1 b.2 20000 ∧ Q (.bl (rlt a b)) H
/-- the first place of the best by lt -/
def Fst (lt : QQ → QQ → Bool) (fs : List QQ) (j : Nat) : Prop := ∃ f, fs[j]? = some f ∧ (∀ (i : Nat) g, fs[i]? = some g → lt f g = false) ∧ ∀ (i : Nat) g, i < j → fs[i]? = some g → lt g f = true
abbrev FstMax (fs : List QQ) (j : Nat) : Prop := Fst rlt fs j
abbrev FstMin (fs : List QQ) (j : Nat) : Prop := Fst (fun a b => rlt b a) fs j
theorem rlt_asym {a b : QQ} (h : rlt a b = true) : rlt b a = false := by
  have e : a.1 * b.2 < b.1 * a.2 := of_decide_eq_true h
  exact decide_eq_false (by omega)
theorem rlt_le_lt {a b c : QQ} (ha : 0 < a.2) (hb : 0 < b.2) (hc : 0 < c.2) (h1 : rlt b a = false) (h2 : rlt b c = true) : rlt a c = true := by
  have e1 : ¬ b.1 * a.2 < a.1 * b.2 := of_decide_eq_false h1
  have e2 : b.1 * c.2 < c.1 * b.2 := of_decide_eq_true h2
  refine decide_eq_true ?_
  have k1 : b.1 * c.2 * a.2 < c.1 * b.2 * a.2 := Int.mul_lt_mul_of_pos_right e2 ha
  have k2 : a.1 * b.2 * c.2 ≤ b.1 * a.2 * c.2 := Int.mul_le_mul_of_nonneg_right (by omega) (by omega)
  have k3 : a.1 * c.2 * b.2 < c.1 * a.2 * b.2 := by
    have q1 : a.1 * c.2 * b.2 = a.1 * b.2 * c.2 := by grind
    have q2 : c.1 * a.2 * b.2 = c.1 * b.2 * a.2 := by grind
    have q3 : b.1 * a.2 * c.2 = b.1 * c.2 * a.2 := by grind
    omega
  exact Int.lt_of_mul_lt_mul_right k3 (by omega)
structure Ord (lt : QQ → QQ → Bool) : Prop where
  irr : ∀ a, lt a a = false
  lelt : ∀ a b c : QQ, 0 < a.2 → 0 < b.2 → 0 < c.2 → lt b a = false → lt b c = true → lt a c = true
  asym : ∀ a b, lt a b = true → lt b a = false
theorem ordMax : Ord rlt := ⟨fun _ => rlt_irr, fun _ _ _ ha hb hc h1 h2 => rlt_le_lt ha hb hc h1 h2, fun _ _ h => rlt_asym h⟩
theorem ordMin : Ord (fun a b => rlt b a) := ⟨fun _ => rlt_irr, fun _ _ _ ha hb hc h1 h2 => rlt_trans' hc hb ha h2 h1, fun _ _ h => rlt_asym h⟩
/-- between two turns: best so far among the first i -/
def Bst (lt : QQ → QQ → Bool) (fs : List QQ) (i j : Nat) : Prop := ∃ f, fs[j]? = some f ∧ (∀ (m : Nat) g, m < i → fs[m]? = some g → lt f g = false) ∧ ∀ (m : Nat) g, m < j → fs[m]? = some g → lt g f = true
theorem Bst.start {lt : QQ → QQ → Bool} {fs : List QQ} (h : 0 < fs.length) : Bst lt fs 0 0 := ⟨fs[0], List.getElem?_eq_getElem h, fun m g hm => absurd hm (by omega), fun m g hm => absurd hm (by omega)⟩
theorem Bst.keep {lt : QQ → QQ → Bool} {fs : List QQ} {i j : Nat} {f g : QQ} (b : Bst lt fs i j) (hf : fs[j]? = some f) (hg : fs[i]? = some g) (h : lt f g = false) : Bst lt fs (i + 1) j := by
  obtain ⟨f', e, k1, k2⟩ := b
  rw [hf] at e; cases e
  refine ⟨f, hf, fun m x hm hx => ?_, k2⟩
  by_cases z : m = i
  · subst z; rw [hg] at hx; cases hx; exact h
  · exact k1 m x (by omega) hx
theorem Bst.take {lt : QQ → QQ → Bool} {fs : List QQ} {i j : Nat} {f g : QQ} (O : Ord lt) (lo : ∀ f ∈ fs, Low f) (b : Bst lt fs i j) (hf : fs[j]? = some f) (hg : fs[i]? = some g) (h : lt f g = true) : Bst lt fs (i + 1) i := by
  obtain ⟨f', e, k1, k2⟩ := b
  rw [hf] at e; cases e
  have pf := (lo f (List.mem_of_getElem? hf)).1
  have pg := (lo g (List.mem_of_getElem? hg)).1
  have up : ∀ (m : Nat) x, m < i → fs[m]? = some x → lt x g = true := fun m x hm hx => O.lelt x f g (lo x (List.mem_of_getElem? hx)).1 pf pg (k1 m x hm hx) h
  refine ⟨g, hg, fun m x hm hx => ?_, up⟩
  by_cases z : m = i
  · subst z; rw [hg] at hx; cases hx; exact O.irr g
  · exact O.asym _ _ (up m x (by omega) hx)
theorem Bst.fst {lt : QQ → QQ → Bool} {fs : List QQ} {j : Nat} (b : Bst lt fs fs.length j) : Fst lt fs j := by
  obtain ⟨f, e, k1, k2⟩ := b
  exact ⟨f, e, fun m g hg => k1 m g (List.getElem?_eq_some_iff.mp hg).1 hg, k2⟩
theorem Bst.lt {lt : QQ → QQ → Bool} {fs : List QQ} {i j : Nat} (b : Bst lt fs i j) : j < fs.length := by
  obtain ⟨f, e, _⟩ := b
  exact (List.getElem?_eq_some_iff.mp e).1
theorem Frs.nil' {K : PySem.W.Frag} {H : Hp} {B : Nat} : Frs K H [] [] B := ⟨rfl, fun i x f h => by cases h⟩
theorem Frs.cons' {K : PySem.W.Frag} {H : Hp} {B : Nat} {x : V} {f : QQ} {xs : List V} {fs : List QQ} (h : FrB K H x f.1 f.2 B) (t : Frs K H xs fs B) : Frs K H (x :: xs) (f :: fs) B :=
  ⟨by rw [List.length_cons, List.length_cons, t.1], fun i y g a b => by
    cases i with
    | zero => cases a; cases b; exact h
    | succ i => exact t.2 i y g a b⟩
theorem Frs.uncons' {K : PySem.W.Frag} {H : Hp} {B : Nat} {x : V} {f : QQ} {xs : List V} {fs : List QQ} (t : Frs K H (x :: xs) (f :: fs) B) : FrB K H x f.1 f.2 B ∧ Frs K H xs fs B :=
  ⟨t.2 0 x f rfl rfl, by have := t.1; simpa using this, fun i y g a b => t.2 (i + 1) y g a b⟩
theorem Frs.app' {K : PySem.W.Frag} {H : Hp} {B : Nat} : ∀ {xs : List V} {fs : List QQ} {ys : List V} {gs : List QQ}, Frs K H xs fs B → Frs K H ys gs B → Frs K H (xs ++ ys) (fs ++ gs) B
  | [], [], _, _, _, b => b
  | [], _ :: _, _, _, a, _ => by have := a.1; cases this
  | _ :: _, [], _, _, a, _ => by have := a.1; cases this
  | x :: xs, f :: fs, ys, gs, a, b => Frs.cons' a.uncons'.1 (Frs.app' a.uncons'.2 b)
theorem FrB.put' {K : PySem.W.Frag} {H : Hp} {v : V} {n d : Int} {B : Nat} {D : Addr} {l l' : List V} (f : FrB K H v n d B) (hD : H D = some (.lst l)) : FrB K (upd H D (.lst l')) v n d B := by
  refine ⟨?_, f.d0, f.g, f.nB, f.dB⟩
  obtain ⟨p, rfl, h⟩ := f.fr
  refine ⟨p, rfl, ?_⟩
  rcases h with (h | ⟨o, h⟩) | h
  · exact .inl (.inl (by rw [upd_ne (ne_of h hD (fun z => by cases z))]; exact h))
  · exact .inl (.inr ⟨o, by rw [upd_ne (ne_of h hD (fun z => by cases z))]; exact h⟩)
  · exact .inr h
theorem Frs.put' {K : PySem.W.Frag} {H : Hp} {B : Nat} {D : Addr} {l l' : List V} {xs : List V} {fs : List QQ} (f : Frs K H xs fs B) (hD : H D = some (.lst l)) : Frs K (upd H D (.lst l')) xs fs B := ⟨f.1, fun i x g a b => (f.2 i x g a b).put' hD⟩
theorem Frs.one' {K : PySem.W.Frag} {H : Hp} {B : Nat} {x : V} {f : QQ} (h : FrB K H x f.1 f.2 B) : Frs K H [x] [f] B := Frs.cons' h Frs.nil'
def spSub (K : PySem.W.Frag) : Sp := fun vs H Q _ => ∃ (v1 v2 : V) (x y : QQ), vs = [v1, v2] ∧ FrB K H v1 x.1 x.2 3000 ∧ FrB K H v2 y.1 y.2 3000 ∧ ∀ r, H r = none → Q (.ref r) (upd H r (.tup [.int (red (x.1 * y.2 - y.1 * x.2) (x.2 * y.2)).1, .int (red (x.1 * y.2 - y.1 * x.2) (x.2 * y.2)).2]))
def spMul (K : PySem.W.Frag) : Sp := fun vs H Q _ => ∃ (v1 v2 : V) (x y : QQ), vs = [v1, v2] ∧ FrB K H v1 x.1 x.2 3000 ∧ FrB K H v2 y.1 y.2 3000 ∧ ∀ r, H r = none → Q (.ref r) (upd H r (.tup [.int (red (x.1 * y.1) (x.2 * y.2)).1, .int (red (x.1 * y.1) (x.2 * y.2)).2]))
def spDiv (K : PySem.W.Frag) : Sp := fun vs H Q _ => ∃ (v1 v2 : V) (x y : QQ), vs = [v1, v2] ∧ FrB K H v1 x.1 x.2 3000 ∧ FrB K H v2 y.1 y.2 3000 ∧ y.1 ≠ 0 ∧ ∀ r, H r = none → Q (.ref r) (upd H r (.tup [.int (red (x.1 * y.2) (x.2 * y.1)).1, .int (red (x.1 * y.2) (x.2 * y.1)).2]))
theorem ne_mul {i j : Int} (h : 0 < i) (k : j ≠ 0) : i * j ≠ 0 := fun z => by
  rcases Int.mul_eq_zero.mp z with z | z
  · omega
  · exact k z
/-! ### terms -/
inductive Kd where
  | delay (f : QQ) | max | min | median | mix (ws : List QQ)
inductive Tm where
  | ev (n : Str) : Tm
  | nd (k : Kd) (ts : List Tm) : Tm
def Tm.subs : Tm → List Tm
  | .ev _ => []
  | .nd _ ts => ts
mutual
def Tm.size : Tm → Nat
  | .ev _ => 1
  | .nd _ ts => 1 + Tm.sizes ts
def Tm.sizes : List Tm → Nat
  | [] => 0
  | t :: ts => t.size + Tm.sizes ts
end
mutual
def Tm.depth : Tm → Nat
  | .ev _ => 1
  | .nd _ ts => 1 + Tm.depths ts
def Tm.depths : List Tm → Nat
  | [] => 0
  | t :: ts => Nat.max t.depth (Tm.depths ts)
end
mutual
def Tm.flat : Tm → List Str
  | .ev s => [s]
  | .nd _ ts => Tm.flats ts
def Tm.flats : List Tm → List Str
  | [] => []
  | t :: ts => t.flat ++ Tm.flats ts
end
theorem Tm.size_eq (t : Tm) : t.size = 1 + Tm.sizes t.subs := by cases t <;> simp [Tm.size, Tm.subs, Tm.sizes]
theorem Tm.sizes_eq : ∀ ts : List Tm, Tm.sizes ts = (ts.map Tm.size).sum
  | [] => by simp [Tm.sizes]
  | t :: ts => by rw [Tm.sizes, Tm.sizes_eq ts, List.map_cons, List.sum_cons]
def All2 (R : V → Tm → Prop) (xs : List V) (ts : List Tm) : Prop := xs.length = ts.length ∧ ∀ (i : Nat) x t, xs[i]? = some x → ts[i]? = some t → R x t
theorem All2.mono {R S : V → Tm → Prop} {xs : List V} {ts : List Tm} (h : All2 R xs ts) (k : ∀ x t, R x t → S x t) : All2 S xs ts := ⟨h.1, fun i x t a b => k x t (h.2 i x t a b)⟩
theorem All2.nil {R : V → Tm → Prop} : All2 R [] [] := ⟨rfl, fun i x t h => by cases h⟩
theorem All2.snoc {R : V → Tm → Prop} {xs : List V} {ts : List Tm} {x : V} {t : Tm} (h : All2 R xs ts) (k : R x t) : All2 R (xs ++ [x]) (ts ++ [t]) := by
  refine ⟨by rw [List.length_append, List.length_append, h.1]; rfl, fun i y u a b => ?_⟩
  by_cases hi : i < xs.length
  · rw [List.getElem?_append_left hi] at a
    rw [List.getElem?_append_left (by rw [← h.1]; exact hi)] at b
    exact h.2 i y u a b
  · have e : i = xs.length := by
      have := (List.getElem?_eq_some_iff.mp a).1
      rw [List.length_append] at this
      have : i < xs.length + 1 := this
      omega
    subst e
    rw [List.getElem?_append_right (Nat.le_refl _), Nat.sub_self] at a
    rw [h.1, List.getElem?_append_right (Nat.le_refl _), Nat.sub_self] at b
    cases a; cases b
    exact k
theorem All2.one {R : V → Tm → Prop} {x : V} {t : Tm} (k : R x t) : All2 R [x] [t] := All2.nil.snoc k
theorem All2.at {R : V → Tm → Prop} {xs : List V} {ts : List Tm} (h : All2 R xs ts) {i : Nat} {x : V} (hx : xs[i]? = some x) : ∃ t, ts[i]? = some t ∧ R x t := by
  have l : i < ts.length := by rw [← h.1]; exact (List.getElem?_eq_some_iff.mp hx).1
  exact ⟨ts[i], List.getElem?_eq_getElem l, h.2 i x _ hx (List.getElem?_eq_getElem l)⟩
def kdS : Kd → Str
  | .delay _ => "delay" | .max => "max" | .min => "min" | .median => "median" | .mix _ => "mix"
/-- a tuple that stands for a term of the kind k over the values xs -/
def Node (K : PySem.W.Frag) (H : Hp) (v : V) : Kd → List V → Prop
  | .delay f, xs => ∃ p x fv, xs = [x] ∧ v = .ref p ∧ SqT K H p [.str "delay", x, fv] ∧ FrB K H fv f.1 f.2 40
  | .max, xs => ∃ p, v = .ref p ∧ SqT K H p (.str "max" :: xs)
  | .min, xs => ∃ p, v = .ref p ∧ SqT K H p (.str "min" :: xs)
  | .median, xs => ∃ p, v = .ref p ∧ SqT K H p (.str "median" :: xs)
  | .mix ws, xs => ∃ p ys, v = .ref p ∧ SqT K H p (.str "mix" :: ys) ∧ ys.length = xs.length ∧ ws.length = xs.length ∧ ∀ (i : Nat) y x f, ys[i]? = some y → xs[i]? = some x → ws[i]? = some f → ∃ q wv, y = .ref q ∧ SqT K H q [wv, x] ∧ FrB K H wv f.1 f.2 40
def TmAt (K : PySem.W.Frag) (H : Hp) : Nat → V → Tm → Prop
  | 0, _, _ => False
  | _ + 1, v, .ev s => ∃ p, v = .ref p ∧ SqT K H p [.str "event", .str s]
  | n + 1, v, .nd k ts => ∃ xs, Node K H v k xs ∧ All2 (TmAt K H n) xs ts
section
variable {K : PySem.W.Frag} {H H' : Hp}
theorem Node.imp (sT : ∀ p xs, SqT K H p xs → SqT K H' p xs) {v : V} {k : Kd} {xs : List V} (h : Node K H v k xs) : Node K H' v k xs := by
  have fb : ∀ {v n d B}, FrB K H v n d B → FrB K H' v n d B := fun f => ⟨by obtain ⟨p, e, z⟩ := f.fr; exact ⟨p, e, sT _ _ z⟩, f.d0, f.g, f.nB, f.dB⟩
  cases k with
  | delay f => obtain ⟨p, x, fv, e1, e2, h1, h2⟩ := h; exact ⟨p, x, fv, e1, e2, sT _ _ h1, fb h2⟩
  | max => obtain ⟨p, e, h1⟩ := h; exact ⟨p, e, sT _ _ h1⟩
  | min => obtain ⟨p, e, h1⟩ := h; exact ⟨p, e, sT _ _ h1⟩
  | median => obtain ⟨p, e, h1⟩ := h; exact ⟨p, e, sT _ _ h1⟩
  | mix ws =>
    obtain ⟨p, ys, e, h1, l1, l2, h2⟩ := h
    refine ⟨p, ys, e, sT _ _ h1, l1, l2, fun i y x f a b c => ?_⟩
    obtain ⟨q, wv, e', h3, h4⟩ := h2 i y x f a b c
    exact ⟨q, wv, e', sT _ _ h3, fb h4⟩
theorem TmAt.imp (sT : ∀ p xs, SqT K H p xs → SqT K H' p xs) : ∀ {n : Nat} {v : V} {t : Tm}, TmAt K H n v t → TmAt K H' n v t
  | 0, _, _, h => h
  | n + 1, v, .ev s, h => by obtain ⟨p, e, z⟩ := h; exact ⟨p, e, sT _ _ z⟩
  | n + 1, v, .nd k ts, h => by
    obtain ⟨xs, h1, h2⟩ := h
    exact ⟨xs, h1.imp sT, h2.mono fun x t z => TmAt.imp sT z⟩
theorem TmAt.same (s : Same H H') {n : Nat} {v : V} {t : Tm} (h : TmAt K H n v t) : TmAt K H' n v t := h.imp fun _ _ z => Same.T s z
theorem TmAt.kp {r : Addr} (R : Rg H r) (k : Kp r H H') {n : Nat} {v : V} {t : Tm} (h : TmAt K H n v t) : TmAt K H' n v t := h.imp fun _ _ z => RgT R k z
theorem TmAt.put {D : Addr} {l l' : List V} (hD : H D = some (.lst l)) {n : Nat} {v : V} {t : Tm} (h : TmAt K H n v t) : TmAt K (upd H D (.lst l')) n v t := h.imp fun p xs z => by
  rcases z with (z | ⟨o, z⟩) | z
  · exact .inl (.inl (by rw [upd_ne (ne_of z hD (fun y => by cases y))]; exact z))
  · exact .inl (.inr ⟨o, by rw [upd_ne (ne_of z hD (fun y => by cases y))]; exact z⟩)
  · exact .inr z
theorem TmAt.up : ∀ {n : Nat} {v : V} {t : Tm}, TmAt K H n v t → TmAt K H (n + 1) v t
  | 0, _, _, h => h.elim
  | n + 1, v, .ev s, h => h
  | n + 1, v, .nd k ts, h => by
    obtain ⟨xs, h1, h2⟩ := h
    exact ⟨xs, h1, h2.mono fun x t z => TmAt.up z⟩
theorem TmAt.le {n m : Nat} (l : n ≤ m) {v : V} {t : Tm} (h : TmAt K H n v t) : TmAt K H m v t := by
  induction l with
  | refl => exact h
  | step _ ih => exact ih.up
end
/-- what the law's terms have: names of the list, few operands, shares -/
def ShW (ws : List QQ) : Prop := ∃ is : List Int, (∀ i ∈ is, 1 ≤ i ∧ i ≤ 4) ∧ is.length ≤ 6 ∧ ws = is.map fun i => red i is.sum
/-- a small delay -/
def DlS (f : QQ) : Prop := f.1.natAbs < 32 ∧ 0 < f.2 ∧ f.2 < 32 ∧ Int.gcd f.1 f.2 = 1
theorem FrB.dls {K : PySem.W.Frag} {H : Hp} {v : V} {n d : Int} (h : FrB K H v n d 5) : DlS (n, d) := ⟨h.nB, h.d0, by have h1 := h.d0; have h2 : d.natAbs < 32 := h.dB; show d < 32; omega, h.g⟩
def KdOk : Kd → Nat → Prop
  | .delay f, m => m = 1 ∧ DlS f
  | .max, m => 1 ≤ m ∧ m ≤ 3
  | .min, m => 1 ≤ m ∧ m ≤ 3
  | .median, m => m = 3
  | .mix ws, m => 1 ≤ m ∧ m ≤ 3 ∧ ws.length = m ∧ ShW ws
def Good (ss : List Str) : Nat → Tm → Prop
  | 0, _ => False
  | _ + 1, .ev s => s ∈ ss
  | n + 1, .nd k ts => KdOk k ts.length ∧ ∀ t ∈ ts, Good ss n t
/-- the same, up to six operands -/
def KdW : Kd → Nat → Prop
  | .delay f, m => m = 1 ∧ DlS f
  | .max, m => 1 ≤ m ∧ m ≤ 6
  | .min, m => 1 ≤ m ∧ m ≤ 6
  | .median, m => m = 3
  | .mix ws, m => (1 ≤ m ∧ m ≤ 6) ∧ ws.length = m ∧ ShW ws
def WT (ss : List Str) : Nat → Tm → Prop
  | 0, _ => False
  | _ + 1, .ev s => s ∈ ss
  | n + 1, .nd k ts => KdW k ts.length ∧ ∀ t ∈ ts, WT ss n t
theorem KdOk.w {k : Kd} {m : Nat} (h : KdOk k m) : KdW k m := by
  cases k with
  | delay f => exact h
  | max => exact ⟨h.1, by have := h.2; omega⟩
  | min => exact ⟨h.1, by have := h.2; omega⟩
  | median => exact h
  | mix ws => exact ⟨⟨h.1, by have := h.2.1; omega⟩, h.2.2⟩
theorem Good.wt {ss : List Str} : ∀ {n : Nat} {t : Tm}, Good ss n t → WT ss n t
  | 0, _, h => h
  | n + 1, .ev s, h => h
  | n + 1, .nd k ts, h => ⟨h.1.w, fun t ht => (h.2 t ht).wt⟩
theorem WT.up {ss : List Str} : ∀ {n : Nat} {t : Tm}, WT ss n t → WT ss (n + 1) t
  | 0, _, h => h.elim
  | n + 1, .ev s, h => h
  | n + 1, .nd k ts, h => ⟨h.1, fun t ht => (h.2 t ht).up⟩
theorem WT.le {ss : List Str} {n m : Nat} (l : n ≤ m) {t : Tm} (h : WT ss n t) : WT ss m t := by
  induction l with
  | refl => exact h
  | step _ ih => exact ih.up
def szB : Nat → Nat
  | 0 => 0
  | n + 1 => 1 + 3 * szB n
theorem Good.up {ss : List Str} : ∀ {n : Nat} {t : Tm}, Good ss n t → Good ss (n + 1) t
  | 0, _, h => h.elim
  | n + 1, .ev s, h => h
  | n + 1, .nd k ts, h => ⟨h.1, fun t ht => (h.2 t ht).up⟩
theorem Good.le {ss : List Str} {n m : Nat} (l : n ≤ m) {t : Tm} (h : Good ss n t) : Good ss m t := by
  induction l with
  | refl => exact h
  | step _ ih => exact ih.up
theorem KdOk.three {k : Kd} {m : Nat} (h : KdOk k m) : m ≤ 3 := by
  cases k with
  | delay f => have : m = 1 := h.1; omega
  | max => exact h.2
  | min => exact h.2
  | median => exact Nat.le_of_eq h
  | mix ws => exact h.2.1
theorem sizes_le {B : Nat} : ∀ {ts : List Tm}, (∀ t ∈ ts, t.size ≤ B) → Tm.sizes ts ≤ ts.length * B
  | [], _ => by simp [Tm.sizes]
  | t :: ts, h => by
    rw [Tm.sizes, List.length_cons, Nat.add_mul, Nat.one_mul]
    have h1 := h t List.mem_cons_self
    have h2 := sizes_le (B := B) (ts := ts) fun u hu => h u (List.mem_cons_of_mem _ hu)
    omega
theorem Good.size {ss : List Str} : ∀ {n : Nat} {t : Tm}, Good ss n t → t.size ≤ szB n
  | 0, _, h => h.elim
  | n + 1, .ev s, _ => by simp [Tm.size, szB]
  | n + 1, .nd k ts, h => by
    have h1 := sizes_le (B := szB n) fun t ht => (h.2 t ht).size
    have h2 := Nat.mul_le_mul_right (szB n) h.1.three
    rw [Tm.size, szB]
    omega
theorem Tm.depth_eq (t : Tm) : t.depth = 1 + Tm.depths t.subs := by cases t <;> simp [Tm.depth, Tm.subs, Tm.depths]
theorem depths_ge : ∀ {ts : List Tm} {u : Tm}, u ∈ ts → u.depth ≤ Tm.depths ts
  | t :: ts, u, h => by
    rw [Tm.depths]
    rcases List.mem_cons.mp h with z | z
    · rw [z]; exact Nat.le_max_left _ _
    · exact Nat.le_trans (depths_ge z) (Nat.le_max_right _ _)
theorem depths_in : ∀ {ts : List Tm}, ts ≠ [] → ∃ u ∈ ts, Tm.depths ts = u.depth
  | [], h => absurd rfl h
  | t :: ts, _ => by
    rw [Tm.depths]
    by_cases q : ts = []
    · subst q
      exact ⟨t, List.mem_cons_self, by rw [Tm.depths]; exact Nat.max_eq_left (Nat.zero_le _)⟩
    · obtain ⟨u, hu, e⟩ := depths_in q
      by_cases c : Tm.depths ts ≤ t.depth
      · exact ⟨t, List.mem_cons_self, Nat.max_eq_left c⟩
      · exact ⟨u, List.mem_cons_of_mem _ hu, by rw [← e]; exact Nat.max_eq_right (by omega)⟩
theorem depths_max {ts : List Tm} {m : Int} (hm : m ∈ ts.map (fun u => (u.depth : Int))) (hk : ∀ k ∈ ts.map (fun u => (u.depth : Int)), k ≤ m) : (Tm.depths ts : Int) = m := by
  obtain ⟨u, hu, rfl⟩ := List.mem_map.mp hm
  have h1 := depths_ge hu
  obtain ⟨v, hv, e⟩ := depths_in (ts := ts) (fun z => by rw [z] at hu; cases hu)
  have h2 := hk _ (List.mem_map.mpr ⟨v, hv, rfl⟩)
  have h2' : (v.depth : Int) ≤ (u.depth : Int) := h2
  omega
def ArOk : Tm → Prop
  | .ev _ => True
  | .nd _ ts => 1 ≤ ts.length ∧ ts.length ≤ 60
theorem Good.ar {ss : List Str} {n : Nat} {t : Tm} (h : Good ss n t) : ArOk t := by
  cases n with
  | zero => exact h.elim
  | succ n =>
    cases t with
    | ev s => trivial
    | nd k ts =>
      have h3 := h.1.three
      refine ⟨?_, by omega⟩
      have hk := h.1
      cases k with
      | delay f => have : ts.length = 1 := hk.1; omega
      | max => exact hk.1
      | min => exact hk.1
      | median => have : ts.length = 3 := hk; omega
      | mix ws => exact hk.1
/-- the direct subterms, as a new list -/
def spSubs (K : PySem.W.Frag) : Sp := fun vs H Q _ => ∃ (v : V) (t : Tm) (n : Nat), vs = [v] ∧ TmAt K H (n + 1) v t ∧ ArOk t ∧ ∀ l H' xs, Same H H' → H l = none → H' l = some (.lst xs) → All2 (TmAt K H' n) xs t.subs → Q (.ref l) H'
theorem cut_one (x : V) (xs : List V) : cutV (x :: xs) (some 1) none = xs := by
  unfold cutV
  rw [show HT.sIx (x :: xs).length 0 (some 1) = min 1 (x :: xs).length from HT.sIx_nat (x :: xs).length 0 1, HT.sIx_none, List.length_cons, show min 1 (xs.length + 1) = 1 by omega]
  show List.take (xs.length + 1 - 1) xs = xs
  rw [Nat.add_sub_cancel, List.take_length]
theorem not_whole (x : V) (xs : List V) : ¬ (HT.sIx (x :: xs).length 0 (some 1) = 0 ∧ HT.sIx (x :: xs).length (x :: xs).length none = (x :: xs).length) := fun z => by
  have e : HT.sIx (x :: xs).length 0 (some 1) = min 1 (x :: xs).length := HT.sIx_nat (x :: xs).length 0 1
  rw [e, List.length_cons] at z
  have := z.1
  omega
theorem str_no {x y : Str} (h : decide (x = y) = false) : decide (V.str x = V.str y) = false := decide_eq_false fun z => of_decide_eq_false h (V.str.inj z)
/-- the pairs of a mix, walked: what is collected -/
theorem mix_at {K : PySem.W.Frag} {H : Hp} {ws : List QQ} {ys xs : List V} (l1 : ys.length = xs.length) (l2 : ws.length = xs.length) (h : ∀ (i : Nat) y x f, ys[i]? = some y → xs[i]? = some x → ws[i]? = some f → ∃ q wv, y = .ref q ∧ SqT K H q [wv, x] ∧ FrB K H wv f.1 f.2 40) {i : Nat} {y : V} (hy : ys[i]? = some y) :
    ∃ x q wv f, xs[i]? = some x ∧ ws[i]? = some f ∧ y = .ref q ∧ SqT K H q [wv, x] ∧ FrB K H wv f.1 f.2 40 := by
  have hi : i < ys.length := (List.getElem?_eq_some_iff.mp hy).1
  have a : xs[i]? = some (xs[i]'(by omega)) := List.getElem?_eq_getElem _
  have b : ws[i]? = some (ws[i]'(by omega)) := List.getElem?_eq_getElem _
  obtain ⟨q, wv, e, h1, h2⟩ := h i y _ _ hy a b
  exact ⟨_, q, wv, _, a, b, e, h1, h2⟩
def ArN : Nat → Tm → Prop
  | 0, _ => False
  | _ + 1, .ev _ => True
  | n + 1, .nd _ ts => (1 ≤ ts.length ∧ ts.length ≤ 60) ∧ ∀ t ∈ ts, ArN n t
theorem Good.arN {ss : List Str} : ∀ {n : Nat} {t : Tm}, Good ss n t → ArN n t
  | 0, _, h => h
  | n + 1, .ev s, h => trivial
  | n + 1, .nd k ts, h => ⟨Good.ar (n := n + 1) (t := .nd k ts) h, fun t ht => (h.2 t ht).arN⟩
theorem ArN.ok {n : Nat} {t : Tm} (h : ArN n t) : ArOk t := by
  cases n with
  | zero => exact h.elim
  | succ n => cases t with
    | ev s => trivial
    | nd k ts => exact h.1
theorem ArN.sub {n : Nat} {t u : Tm} (h : ArN (n + 1) t) (hu : u ∈ t.subs) : ArN n u := by
  cases t with
  | ev s => cases hu
  | nd k ts => exact h.2 u hu
theorem ArN.len {n : Nat} {t : Tm} (h : ArN n t) : t.subs.length ≤ 60 := by
  cases n with
  | zero => exact h.elim
  | succ n => cases t with
    | ev s => exact Nat.zero_le _
    | nd k ts => exact h.1.2
def spSize (K : PySem.W.Frag) : Nat → Sp
  | 0 => fun _ _ _ _ => False
  | n + 1 => fun vs H Q _ => ∃ (v : V) (t : Tm), vs = [v] ∧ TmAt K H (n + 1) v t ∧ ArN (n + 1) t ∧ ∀ H', Same H H' → Q (.int (t.size : Nat)) H'
def spDepth (K : PySem.W.Frag) : Nat → Sp
  | 0 => fun _ _ _ _ => False
  | n + 1 => fun vs H Q _ => ∃ (v : V) (t : Tm), vs = [v] ∧ TmAt K H (n + 1) v t ∧ ArN (n + 1) t ∧ ∀ H', Same H H' → Q (.int (t.depth : Nat)) H'
/-! ### names in order of first occurrence -/
def addS (acc : List Str) (s : Str) : List Str := if s ∈ acc then acc else acc ++ [s]
def ded (l : List Str) : List Str := l.foldl addS []
theorem add_mem {acc : List Str} {s x : Str} : x ∈ addS acc s ↔ x ∈ acc ∨ x = s := by
  unfold addS
  by_cases h : s ∈ acc
  · rw [if_pos h]
    exact ⟨.inl, fun z => z.elim id fun e => by rw [e]; exact h⟩
  · rw [if_neg h, List.mem_append, List.mem_singleton]
theorem fold_mem : ∀ {l acc : List Str} {x : Str}, x ∈ l.foldl addS acc ↔ x ∈ acc ∨ x ∈ l
  | [], acc, x => by simp
  | s :: l, acc, x => by
    rw [List.foldl_cons, fold_mem (l := l), add_mem, List.mem_cons]
    constructor
    · rintro ((h | h) | h)
      · exact .inl h
      · exact .inr (.inl h)
      · exact .inr (.inr h)
    · rintro (h | h | h)
      · exact .inl (.inl h)
      · exact .inl (.inr h)
      · exact .inr h
theorem add_old {acc : List Str} {s : Str} (h : s ∈ acc) : addS acc s = acc := if_pos h
theorem add_new {acc : List Str} {s : Str} (h : s ∉ acc) : addS acc s = acc ++ [s] := if_neg h
/-- folding the first occurrences in is folding all in -/
theorem fold_ded : ∀ (l m acc : List Str), (l.foldl addS m).foldl addS acc = l.foldl addS (m.foldl addS acc)
  | [], _, _ => rfl
  | s :: l, m, acc => by
    rw [List.foldl_cons, List.foldl_cons, fold_ded l (addS m s) acc]
    congr 1
    by_cases h : s ∈ m
    · rw [add_old h, add_old (fold_mem.mpr (.inr h))]
    · rw [add_new h, List.foldl_append]
      rfl
theorem ded_into (l acc : List Str) : (ded l).foldl addS acc = l.foldl addS acc := fold_ded l [] acc
theorem in_strs (s : Str) (acc : List Str) : inV (.str s) (acc.map V.str) = decide (s ∈ acc) := by
  unfold inV
  rw [List.any_map]
  by_cases h : s ∈ acc
  · rw [decide_eq_true h]
    exact List.any_eq_true.mpr ⟨s, h, by show (s == s) = true; simp⟩
  · rw [decide_eq_false h]
    refine Bool.eq_false_iff.mpr fun z => ?_
    obtain ⟨y, hy, e⟩ := List.any_eq_true.mp z
    have e' : (y == s) = true := e
    rw [beq_iff_eq] at e'
    exact h (e' ▸ hy)
theorem flat_strs (l : List Str) : (l.map V.str).all flatV = true := by
  rw [List.all_map]
  exact List.all_eq_true.mpr fun _ _ => rfl
theorem flats_take {ts : List Tm} {i : Nat} {u : Tm} (h : ts[i]? = some u) : Tm.flats (ts.take (i + 1)) = Tm.flats (ts.take i) ++ u.flat := by
  have app : ∀ a b : List Tm, Tm.flats (a ++ b) = Tm.flats a ++ Tm.flats b := by
    intro a b
    induction a with
    | nil => rfl
    | cons x a ih => rw [List.cons_append, Tm.flats, Tm.flats, ih, List.append_assoc]
  rw [List.take_add_one, h, app]
  show _ ++ Tm.flats [u] = _
  rw [Tm.flats, Tm.flats, List.append_nil]
theorem ded_app (a b : List Str) : ded (a ++ b) = b.foldl addS (ded a) := List.foldl_append ..
theorem ded_len : ∀ (l acc : List Str), (l.foldl addS acc).length ≤ acc.length + l.length
  | [], acc => Nat.le_refl _
  | s :: l, acc => by
    have h := ded_len l (addS acc s)
    have h2 : (addS acc s).length ≤ acc.length + 1 := by
      unfold addS
      split
      · omega
      · rw [List.length_append]; exact Nat.le_refl _
    rw [List.foldl_cons, List.length_cons]
    omega
def spNames (K : PySem.W.Frag) : Nat → Sp
  | 0 => fun _ _ _ _ => False
  | n + 1 => fun vs H Q _ => ∃ (v : V) (t : Tm), vs = [v] ∧ TmAt K H (n + 1) v t ∧ ArN (n + 1) t ∧ t.flat.length ≤ 1000 ∧ ∀ l H', Same H H' → H l = none → H' l = some (.lst ((ded t.flat).map V.str)) → Q (.ref l) H'
mutual
theorem flat_size : ∀ t : Tm, t.flat.length ≤ t.size
  | .ev s => by rw [Tm.flat, Tm.size]; exact Nat.le_refl _
  | .nd k ts => by
    rw [Tm.flat, Tm.size]
    have := flats_size ts
    omega
theorem flats_size : ∀ ts : List Tm, (Tm.flats ts).length ≤ Tm.sizes ts
  | [] => by rw [Tm.flats, Tm.sizes]; exact Nat.le_refl _
  | t :: ts => by
    rw [Tm.flats, Tm.sizes, List.length_append]
    have := flat_size t
    have := flats_size ts
    omega
end
/-! ### rationals -/
def toR (f : QQ) : Rat := Rat.divInt f.1 f.2
def ofR (q : Rat) : QQ := (q.num, (q.den : Int))
theorem low_ofR (q : Rat) : Low (ofR q) := by
  refine ⟨?_, ?_⟩
  · have := q.den_pos
    show (0 : Int) < (q.den : Int)
    omega
  · show Int.gcd q.num (q.den : Int) = 1
    have := q.reduced
    rw [Int.gcd_eq_natAbs_gcd_natAbs, Int.natAbs_natCast]
    exact this
theorem toR_ofR (q : Rat) : toR (ofR q) = q := Rat.num_divInt_den q
theorem red_R {n d : Int} (hd : d ≠ 0) : red n d = ofR (Rat.divInt n d) := by
  refine red_unique hd (low_ofR _).1 (low_ofR _).2 ?_
  show (Rat.divInt n d).num * d = n * ((Rat.divInt n d).den : Int)
  have h := Rat.num_divInt_den (Rat.divInt n d)
  have hz : ((Rat.divInt n d).den : Int) ≠ 0 := by have := (Rat.divInt n d).den_pos; omega
  exact (Rat.divInt_eq_divInt_iff hz hd).mp h
theorem ofR_toR {f : QQ} (h : Low f) : ofR (toR f) = f := by
  have e := red_R (n := f.1) (d := f.2) (by have := h.1; omega)
  rw [red_self h.1 h.2] at e
  exact e.symm
theorem den_ne (q : Rat) : (q.den : Int) ≠ 0 := by have := q.den_pos; omega
theorem radd_R (x y : Rat) : radd (ofR x) (ofR y) = ofR (x + y) := by
  show red (x.num * y.den + y.num * x.den) ((x.den : Int) * y.den) = _
  rw [red_R (Int.mul_ne_zero (den_ne x) (den_ne y)), ← Rat.divInt_add_divInt _ _ (den_ne x) (den_ne y), Rat.num_divInt_den, Rat.num_divInt_den]
theorem rsub_R (x y : Rat) : red (x.num * y.den - y.num * x.den) ((x.den : Int) * y.den) = ofR (x - y) := by
  rw [red_R (Int.mul_ne_zero (den_ne x) (den_ne y)), ← Rat.divInt_sub_divInt _ _ (den_ne x) (den_ne y), Rat.num_divInt_den, Rat.num_divInt_den]
theorem rmul_R (x y : Rat) : red (x.num * y.num) ((x.den : Int) * y.den) = ofR (x * y) := by
  rw [red_R (Int.mul_ne_zero (den_ne x) (den_ne y)), ← Rat.divInt_mul_divInt, Rat.num_divInt_den, Rat.num_divInt_den]
theorem rlt_R (x y : Rat) : rlt (ofR x) (ofR y) = decide (x < y) := by
  unfold rlt
  exact decide_eq_decide.mpr (Rat.lt_iff x y).symm
/-- the rational q, as a tuple, below 2 ^ B -/
def FR (K : PySem.W.Frag) (H : Hp) (v : V) (q : Rat) (B : Nat) : Prop := FrB K H v (ofR q).1 (ofR q).2 B
theorem FR.of {K : PySem.W.Frag} {H : Hp} {v : V} {f : QQ} {B : Nat} (h : FrB K H v f.1 f.2 B) : FR K H v (toR f) B := by
  have e := ofR_toR (f := f) ⟨h.d0, h.g⟩
  unfold FR
  rw [e]
  exact h
theorem FR.of' {K : PySem.W.Frag} {H : Hp} {v : V} {n d : Int} {B : Nat} (h : FrB K H v n d B) : FR K H v (toR (n, d)) B := FR.of (f := (n, d)) h
def Bt (q : Rat) (B : Nat) : Prop := (ofR q).1.natAbs < 2 ^ B ∧ (ofR q).2.natAbs < 2 ^ B
theorem FR.bt {K : PySem.W.Frag} {H : Hp} {v : V} {q : Rat} {B : Nat} (h : FR K H v q B) : Bt q B := ⟨h.nB, h.dB⟩
theorem Bt.up {q : Rat} {B C : Nat} (h : Bt q B) (l : B ≤ C) : Bt q C := ⟨Nat.lt_of_lt_of_le h.1 (Nat.pow_le_pow_right (by decide) l), Nat.lt_of_lt_of_le h.2 (Nat.pow_le_pow_right (by decide) l)⟩
theorem FR.mk {K : PySem.W.Frag} {H : Hp} {v : V} {q : Rat} {B : Nat} (f : Fr K H v (ofR q).1 (ofR q).2) (b : Bt q B) : FR K H v q B := ⟨f, (low_ofR q).1, (low_ofR q).2, b.1, b.2⟩
theorem FR.new {K : PySem.W.Frag} {H : Hp} {p : Addr} {q : Rat} {B : Nat} (b : Bt q B) : FR K (upd H p (.tup [.int (ofR q).1, .int (ofR q).2])) (.ref p) q B := FR.mk Fr.new b
theorem Bt.red {n d : Int} {B : Nat} (hd : d ≠ 0) (h1 : n.natAbs < 2 ^ B) (h2 : d.natAbs < 2 ^ B) : Bt (Rat.divInt n d) B := by
  have e := red_R (n := n) hd
  refine ⟨?_, ?_⟩
  · rw [← e]; exact Nat.lt_of_le_of_lt (red_le1 hd) h1
  · rw [← e]; exact Nat.lt_of_le_of_lt (red_le2 hd) h2
theorem Bt.add {x y : Rat} {A B : Nat} (hx : Bt x A) (hy : Bt y B) : Bt (x + y) (A + B + 1) := by
  have e : x + y = Rat.divInt (x.num * y.den + y.num * x.den) ((x.den : Int) * y.den) := by rw [← Rat.divInt_add_divInt _ _ (den_ne x) (den_ne y), Rat.num_divInt_den, Rat.num_divInt_den]
  rw [e]
  have h1 : x.num.natAbs < 2 ^ A := hx.1
  have h2 : (x.den : Int).natAbs < 2 ^ A := hx.2
  have h3 : y.num.natAbs < 2 ^ B := hy.1
  have h4 : (y.den : Int).natAbs < 2 ^ B := hy.2
  have m : ∀ {a b : Nat}, a < 2 ^ A → b < 2 ^ B → a * b < 2 ^ (A + B) := fun ha hb => by rw [Nat.pow_add]; exact Nat.mul_lt_mul'' ha hb
  refine Bt.red (Int.mul_ne_zero (den_ne x) (den_ne y)) ?_ ?_
  · have k1 : (x.num * (y.den : Int)).natAbs < 2 ^ (A + B) := by rw [Int.natAbs_mul]; exact m h1 h4
    have k2 : (y.num * (x.den : Int)).natAbs < 2 ^ (A + B) := by rw [Int.natAbs_mul, Nat.mul_comm]; exact m h2 h3
    rw [Nat.pow_succ]
    omega
  · have k : ((x.den : Int) * (y.den : Int)).natAbs < 2 ^ (A + B) := by rw [Int.natAbs_mul]; exact m h2 h4
    rw [Nat.pow_succ]
    omega
theorem Bt.mul {x y : Rat} {A B : Nat} (hx : Bt x A) (hy : Bt y B) : Bt (x * y) (A + B) := by
  have e : x * y = Rat.divInt (x.num * y.num) ((x.den : Int) * y.den) := by rw [← Rat.divInt_mul_divInt, Rat.num_divInt_den, Rat.num_divInt_den]
  rw [e]
  have m : ∀ {a b : Nat}, a < 2 ^ A → b < 2 ^ B → a * b < 2 ^ (A + B) := fun ha hb => by rw [Nat.pow_add]; exact Nat.mul_lt_mul'' ha hb
  refine Bt.red (Int.mul_ne_zero (den_ne x) (den_ne y)) ?_ ?_
  · rw [Int.natAbs_mul]; exact m hx.1 hy.1
  · rw [Int.natAbs_mul]; exact m hx.2 hy.2
theorem Bt.neg {x : Rat} {A : Nat} (hx : Bt x A) : Bt (-x) A := by
  refine ⟨?_, ?_⟩
  · show ((-x).num).natAbs < 2 ^ A
    rw [Rat.neg_num, Int.natAbs_neg]; exact hx.1
  · show ((-x).den : Int).natAbs < 2 ^ A
    rw [Rat.neg_den]; exact hx.2
theorem Bt.sub {x y : Rat} {A B : Nat} (hx : Bt x A) (hy : Bt y B) : Bt (x - y) (A + B + 1) := by
  rw [Rat.sub_eq_add_neg]
  exact hx.add hy.neg
theorem bt0 {B : Nat} : Bt 0 (B + 1) := by
  have : (2 : Nat) ≤ 2 ^ (B + 1) := Nat.le_trans (by decide) (Nat.pow_le_pow_right (by decide) (show 1 ≤ B + 1 by omega))
  exact ⟨by show (0 : Nat) < _; omega, by show (1 : Nat) < _; omega⟩
/-- what is called with a rational -/
theorem FR.up {K : PySem.W.Frag} {H : Hp} {v : V} {q : Rat} {B C : Nat} (f : FR K H v q B) (h : B ≤ C) : FR K H v q C := FR.mk f.fr (f.bt.up h)
theorem FR.same {K : PySem.W.Frag} {H H' : Hp} {v : V} {q : Rat} {B : Nat} (f : FR K H v q B) (k : Same H H') : FR K H' v q B := FrB.same f k
theorem FR.kp {K : PySem.W.Frag} {H H' : Hp} {r : Addr} {v : V} {q : Rat} {B : Nat} (f : FR K H v q B) (R : Rg H r) (k : Kp r H H') : FR K H' v q B := FrB.kp f R k
theorem FR.put {K : PySem.W.Frag} {H : Hp} {v : V} {q : Rat} {B : Nat} {D : Addr} {l l' : List V} (f : FR K H v q B) (hD : H D = some (.lst l)) : FR K (upd H D (.lst l')) v q B := FrB.put' f hD
/-- a list of rationals -/
def FRs (K : PySem.W.Frag) (H : Hp) (xs : List V) (qs : List Rat) (B : Nat) : Prop := Frs K H xs (qs.map ofR) B
theorem FRs.len {K : PySem.W.Frag} {H : Hp} {xs : List V} {qs : List Rat} {B : Nat} (h : FRs K H xs qs B) : xs.length = qs.length := by
  have := h.1
  rw [List.length_map] at this
  exact this
theorem FRs.nil {K : PySem.W.Frag} {H : Hp} {B : Nat} : FRs K H [] [] B := Frs.nil'
theorem FRs.cons {K : PySem.W.Frag} {H : Hp} {x : V} {q : Rat} {xs : List V} {qs : List Rat} {B : Nat} (h : FR K H x q B) (t : FRs K H xs qs B) : FRs K H (x :: xs) (q :: qs) B := Frs.cons' (f := ofR q) h t
theorem FRs.at {K : PySem.W.Frag} {H : Hp} {xs : List V} {qs : List Rat} {B : Nat} (h : FRs K H xs qs B) {i : Nat} {x : V} {q : Rat} (hx : xs[i]? = some x) (hq : qs[i]? = some q) : FR K H x q B := h.2 i x (ofR q) hx (by rw [List.getElem?_map, hq]; rfl)
theorem FRs.app {K : PySem.W.Frag} {H : Hp} {xs ys : List V} {qs rs : List Rat} {B : Nat} (a : FRs K H xs qs B) (b : FRs K H ys rs B) : FRs K H (xs ++ ys) (qs ++ rs) B := by
  unfold FRs
  rw [List.map_append]
  exact Frs.app' a b
theorem FRs.snoc {K : PySem.W.Frag} {H : Hp} {xs : List V} {qs : List Rat} {x : V} {q : Rat} {B : Nat} (a : FRs K H xs qs B) (h : FR K H x q B) : FRs K H (xs ++ [x]) (qs ++ [q]) B := a.app (FRs.cons h FRs.nil)
theorem FRs.mono {K : PySem.W.Frag} {H H' : Hp} {xs : List V} {qs : List Rat} {B C : Nat} (a : FRs K H xs qs B) (h : ∀ v q, FR K H v q B → FR K H' v q C) : FRs K H' xs qs C := ⟨a.1, fun i x f hx hf => by
  rw [List.getElem?_map] at hf
  cases e : qs[i]? with
  | none => rw [e] at hf; cases hf
  | some q => rw [e] at hf; cases hf; exact h x q (a.at hx e)⟩
theorem FRs.get {K : PySem.W.Frag} {H : Hp} {xs : List V} {qs : List Rat} {B : Nat} (h : FRs K H xs qs B) {i : Nat} {x : V} (hx : xs[i]? = some x) : ∃ q, qs[i]? = some q ∧ FR K H x q B := by
  have l : i < qs.length := by rw [← h.len]; exact (List.getElem?_eq_some_iff.mp hx).1
  exact ⟨qs[i], List.getElem?_eq_getElem l, h.at hx (List.getElem?_eq_getElem l)⟩
/-! ### the value of a term -/
def lmax : List Rat → Rat
  | [] => 0
  | [x] => x
  | x :: xs => max x (lmax xs)
def lmin : List Rat → Rat
  | [] => 0
  | [x] => x
  | x :: xs => min x (lmin xs)
/-- the second largest of three -/
def med3 (x y z : Rat) : Rat := max (min x y) (min (max x y) z)
def lmed : List Rat → Rat
  | [x, y, z] => med3 x y z
  | _ => 0
def lmix : List Rat → List Rat → Rat
  | w :: ws, x :: xs => w * x + lmix ws xs
  | _, _ => 0
def Kd.comb : Kd → List Rat → Rat
  | .delay f, xs => lmax xs + toR f
  | .max, xs => lmax xs
  | .min, xs => lmin xs
  | .median, xs => lmed xs
  | .mix ws, xs => lmix (ws.map toR) xs
mutual
def Tm.val (ρ : Str → Rat) : Tm → Rat
  | .ev s => ρ s
  | .nd k ts => k.comb (Tm.vals ρ ts)
def Tm.vals (ρ : Str → Rat) : List Tm → List Rat
  | [] => []
  | t :: ts => t.val ρ :: Tm.vals ρ ts
end
theorem vals_map (ρ : Str → Rat) : ∀ ts : List Tm, Tm.vals ρ ts = ts.map (Tm.val ρ)
  | [] => by rw [Tm.vals]; rfl
  | t :: ts => by rw [Tm.vals, vals_map ρ ts]; rfl
/-! ### order, shift -/
def Le2 (xs ys : List Rat) : Prop := xs.length = ys.length ∧ ∀ (i : Nat) x y, xs[i]? = some x → ys[i]? = some y → x ≤ y
theorem Le2.uncons {x y : Rat} {xs ys : List Rat} (h : Le2 (x :: xs) (y :: ys)) : x ≤ y ∧ Le2 xs ys := ⟨h.2 0 x y rfl rfl, by have := h.1; simpa using this, fun i a b ha hb => h.2 (i + 1) a b ha hb⟩
theorem lmax_mono : ∀ {xs ys : List Rat}, Le2 xs ys → lmax xs ≤ lmax ys
  | [], [], _ => Rat.le_refl
  | [], _ :: _, h => by have := h.1; cases this
  | _ :: _, [], h => by have := h.1; cases this
  | [x], [y], h => h.uncons.1
  | [x], _ :: _ :: _, h => by have := h.1; cases this
  | _ :: _ :: _, [y], h => by have := h.1; cases this
  | x :: a :: xs, y :: b :: ys, h => by
    have i := lmax_mono h.uncons.2
    have j := h.uncons.1
    show max x (lmax (a :: xs)) ≤ max y (lmax (b :: ys))
    generalize lmax (a :: xs) = u at *
    generalize lmax (b :: ys) = v at *
    rw [Rat.max_def, Rat.max_def]
    grind
theorem lmin_mono : ∀ {xs ys : List Rat}, Le2 xs ys → lmin xs ≤ lmin ys
  | [], [], _ => Rat.le_refl
  | [], _ :: _, h => by have := h.1; cases this
  | _ :: _, [], h => by have := h.1; cases this
  | [x], [y], h => h.uncons.1
  | [x], _ :: _ :: _, h => by have := h.1; cases this
  | _ :: _ :: _, [y], h => by have := h.1; cases this
  | x :: a :: xs, y :: b :: ys, h => by
    have i := lmin_mono h.uncons.2
    have j := h.uncons.1
    show min x (lmin (a :: xs)) ≤ min y (lmin (b :: ys))
    generalize lmin (a :: xs) = u at *
    generalize lmin (b :: ys) = v at *
    rw [Rat.min_def, Rat.min_def]
    grind
theorem med3_mono {x y z x' y' z' : Rat} (h1 : x ≤ x') (h2 : y ≤ y') (h3 : z ≤ z') : med3 x y z ≤ med3 x' y' z' := by
  unfold med3
  simp only [Rat.max_def, Rat.min_def]
  grind
theorem lmed_mono : ∀ {xs ys : List Rat}, Le2 xs ys → lmed xs ≤ lmed ys := by
  intro xs ys h
  unfold lmed
  split
  · rename_i x y z
    match ys, h with
    | [x', y', z'], h => exact med3_mono h.uncons.1 h.uncons.2.uncons.1 h.uncons.2.uncons.2.uncons.1
    | [], h => have := h.1; cases this
    | [_], h => have := h.1; cases this
    | [_, _], h => have := h.1; cases this
    | _ :: _ :: _ :: _ :: _, h => have := h.1; cases this
  · rename_i ne
    split
    · rename_i x y z
      match xs, h, ne with
      | [a, b, c], _, ne => exact absurd rfl (ne a b c)
      | [], h, _ => have := h.1; cases this
      | [_], h, _ => have := h.1; cases this
      | [_, _], h, _ => have := h.1; cases this
      | _ :: _ :: _ :: _ :: _, h, _ => have := h.1; cases this
    · exact Rat.le_refl
theorem lmix_mono : ∀ {ws xs ys : List Rat}, (∀ w ∈ ws, 0 ≤ w) → Le2 xs ys → lmix ws xs ≤ lmix ws ys
  | [], xs, ys, _, _ => by cases xs <;> cases ys <;> exact Rat.le_refl
  | w :: ws, [], [], _, _ => Rat.le_refl
  | w :: ws, [], _ :: _, _, h => by have := h.1; cases this
  | w :: ws, _ :: _, [], _, h => by have := h.1; cases this
  | w :: ws, x :: xs, y :: ys, hw, h => by
    have i := lmix_mono (fun v hv => hw v (List.mem_cons_of_mem _ hv)) h.uncons.2
    have j := Rat.mul_le_mul_of_nonneg_left h.uncons.1 (hw w List.mem_cons_self)
    show w * x + lmix ws xs ≤ w * y + lmix ws ys
    grind
theorem lmax_shift (c : Rat) : ∀ {xs : List Rat}, xs ≠ [] → lmax (xs.map (· + c)) = lmax xs + c
  | [], h => absurd rfl h
  | [x], _ => rfl
  | x :: a :: xs, _ => by
    have i := lmax_shift c (xs := a :: xs) (by simp)
    show max (x + c) (lmax ((a :: xs).map (· + c))) = max x (lmax (a :: xs)) + c
    rw [i]
    generalize lmax (a :: xs) = u
    simp only [Rat.max_def]
    grind
theorem lmin_shift (c : Rat) : ∀ {xs : List Rat}, xs ≠ [] → lmin (xs.map (· + c)) = lmin xs + c
  | [], h => absurd rfl h
  | [x], _ => rfl
  | x :: a :: xs, _ => by
    have i := lmin_shift c (xs := a :: xs) (by simp)
    show min (x + c) (lmin ((a :: xs).map (· + c))) = min x (lmin (a :: xs)) + c
    rw [i]
    generalize lmin (a :: xs) = u
    simp only [Rat.min_def]
    grind
theorem med3_shift (c x y z : Rat) : med3 (x + c) (y + c) (z + c) = med3 x y z + c := by
  unfold med3
  simp only [Rat.max_def, Rat.min_def]
  grind
theorem lmix_shift (c : Rat) : ∀ {ws xs : List Rat}, ws.length = xs.length → lmix ws (xs.map (· + c)) = lmix ws xs + ws.sum * c
  | [], [], _ => by show (0 : Rat) = 0 + (0 : Rat) * c; grind
  | [], _ :: _, h => by cases h
  | _ :: _, [], h => by cases h
  | w :: ws, x :: xs, h => by
    have i := lmix_shift c (ws := ws) (xs := xs) (by simpa using h)
    show w * (x + c) + lmix ws (xs.map (· + c)) = w * x + lmix ws xs + (w :: ws).sum * c
    rw [i, List.sum_cons]
    grind
/-! ### promises over rationals -/
def spAddR (K : PySem.W.Frag) : Sp := fun vs H Q _ => ∃ (v1 v2 : V) (x y : Rat), vs = [v1, v2] ∧ FR K H v1 x 3900 ∧ FR K H v2 y 3900 ∧ ∀ p, H p = none → Q (.ref p) (upd H p (.tup [.int (ofR (x + y)).1, .int (ofR (x + y)).2]))
def spSubR (K : PySem.W.Frag) : Sp := fun vs H Q _ => ∃ (v1 v2 : V) (x y : Rat), vs = [v1, v2] ∧ FR K H v1 x 3900 ∧ FR K H v2 y 3900 ∧ ∀ p, H p = none → Q (.ref p) (upd H p (.tup [.int (ofR (x - y)).1, .int (ofR (x - y)).2]))
def spMulR (K : PySem.W.Frag) : Sp := fun vs H Q _ => ∃ (v1 v2 : V) (x y : Rat), vs = [v1, v2] ∧ FR K H v1 x 3900 ∧ FR K H v2 y 3900 ∧ ∀ p, H p = none → Q (.ref p) (upd H p (.tup [.int (ofR (x * y)).1, .int (ofR (x * y)).2]))
theorem lmax_eq : ∀ {qs : List Rat} {j : Nat} {q : Rat}, qs[j]? = some q → (∀ (i : Nat) g, qs[i]? = some g → g ≤ q) → lmax qs = q
  | [], j, q, h, _ => by cases h
  | [x], j, q, h, k => by
    cases j with
    | zero => cases h; rfl
    | succ j => cases h
  | x :: y :: qs, j, q, h, k => by
    show max x (lmax (y :: qs)) = q
    have hx := k 0 x rfl
    cases j with
    | zero =>
      cases h
      have up : ∀ {l : List Rat}, l ≠ [] → (∀ (i : Nat) g, l[i]? = some g → g ≤ x) → lmax l ≤ x := by
        intro l
        induction l with
        | nil => intro h; exact absurd rfl h
        | cons a l ih =>
          intro _ h
          cases l with
          | nil => exact h 0 a rfl
          | cons b l =>
            show max a (lmax (b :: l)) ≤ x
            have h1 := h 0 a rfl
            have h2 := ih (by simp) fun i g hg => h (i + 1) g hg
            rw [Rat.max_def]
            split <;> assumption
      have h2 := up (l := y :: qs) (by simp) fun i g hg => k (i + 1) g hg
      rw [Rat.max_def]
      grind
    | succ j =>
      rw [lmax_eq (qs := y :: qs) (j := j) h fun i g hg => k (i + 1) g hg, Rat.max_def]
      grind
theorem lmin_eq : ∀ {qs : List Rat} {j : Nat} {q : Rat}, qs[j]? = some q → (∀ (i : Nat) g, qs[i]? = some g → q ≤ g) → lmin qs = q
  | [], j, q, h, _ => by cases h
  | [x], j, q, h, k => by
    cases j with
    | zero => cases h; rfl
    | succ j => cases h
  | x :: y :: qs, j, q, h, k => by
    show min x (lmin (y :: qs)) = q
    have hx := k 0 x rfl
    cases j with
    | zero =>
      cases h
      have up : ∀ {l : List Rat}, l ≠ [] → (∀ (i : Nat) g, l[i]? = some g → x ≤ g) → x ≤ lmin l := by
        intro l
        induction l with
        | nil => intro h; exact absurd rfl h
        | cons a l ih =>
          intro _ h
          cases l with
          | nil => exact h 0 a rfl
          | cons b l =>
            show x ≤ min a (lmin (b :: l))
            have h1 := h 0 a rfl
            have h2 := ih (by simp) fun i g hg => h (i + 1) g hg
            rw [Rat.min_def]
            split <;> assumption
      have h2 := up (l := y :: qs) (by simp) fun i g hg => k (i + 1) g hg
      rw [Rat.min_def]
      grind
    | succ j =>
      rw [lmin_eq (qs := y :: qs) (j := j) h fun i g hg => k (i + 1) g hg, Rat.min_def]
      grind
theorem fst_R {lt : QQ → QQ → Bool} {qs : List Rat} {j : Nat} (f : Fst lt (qs.map ofR) j) : ∃ q, qs[j]? = some q ∧ ∀ (i : Nat) g, qs[i]? = some g → lt (ofR q) (ofR g) = false := by
  obtain ⟨f, e, k, _⟩ := f
  rw [List.getElem?_map] at e
  cases h : qs[j]? with
  | none => rw [h] at e; cases e
  | some q =>
    rw [h] at e
    cases e
    exact ⟨q, rfl, fun i g hg => k i (ofR g) (by rw [List.getElem?_map, hg]; rfl)⟩
theorem max_R {qs : List Rat} {j : Nat} (f : Fst rlt (qs.map ofR) j) : qs[j]? = some (lmax qs) := by
  obtain ⟨q, h, k⟩ := fst_R f
  rw [lmax_eq h fun i g hg => by
    have z := k i g hg
    rw [rlt_R] at z
    exact Rat.not_lt.mp (of_decide_eq_false z)]
  exact h
theorem min_R {qs : List Rat} {j : Nat} (f : Fst (fun a b => rlt b a) (qs.map ofR) j) : qs[j]? = some (lmin qs) := by
  obtain ⟨q, h, k⟩ := fst_R f
  rw [lmin_eq h fun i g hg => by
    have z := k i g hg
    rw [rlt_R] at z
    exact Rat.not_lt.mp (of_decide_eq_false z)]
  exact h
/-- the place of the greatest, the least -/
def spIx (K : PySem.W.Frag) (best : List Rat → Rat) : Sp := fun vs H Q _ => ∃ (p : Addr) (xs : List V) (qs : List Rat), vs = [.ref p] ∧ Sq K H p xs ∧ FRs K H xs qs 3900 ∧ 0 < xs.length ∧ ∀ (j : Nat) H', Same H H' → qs[j]? = some (best qs) → Q (.int (j : Nat)) H'
/-- the greatest, the least itself -/
def spBest (K : PySem.W.Frag) (best : List Rat → Rat) : Sp := fun vs H Q _ => ∃ (p : Addr) (xs : List V) (qs : List Rat) (B : Nat), vs = [.ref p] ∧ SqL K H p xs ∧ FRs K H xs qs B ∧ B ≤ 20000 ∧ 0 < xs.length ∧ ∀ v, v ∈ xs → FR K H v (best qs) B → Q v H
/-- sums -/
theorem bt_up0 {B : Nat} (h : 0 < B) : Bt 0 B := by
  cases B with
  | zero => cases h
  | succ B => exact bt0
/-! ### terms and tables -/
mutual
def Tm.bt (b : Nat) : Tm → Nat
  | .ev _ => b
  | .nd _ ts => ts.length * (Tm.bm b ts + 41) + 2
def Tm.bm (b : Nat) : List Tm → Nat
  | [] => 0
  | t :: ts => Nat.max (t.bt b) (Tm.bm b ts)
end
theorem bm_ge {b : Nat} : ∀ {ts : List Tm} {u : Tm}, u ∈ ts → u.bt b ≤ Tm.bm b ts
  | t :: ts, u, h => by
    rw [Tm.bm]
    rcases List.mem_cons.mp h with z | z
    · rw [z]; exact Nat.le_max_left _ _
    · exact Nat.le_trans (bm_ge z) (Nat.le_max_right _ _)
theorem bm_le {b B : Nat} : ∀ {ts : List Tm}, (∀ t ∈ ts, t.bt b ≤ B) → Tm.bm b ts ≤ B
  | [], _ => by rw [Tm.bm]; exact Nat.zero_le _
  | t :: ts, h => by
    rw [Tm.bm]
    exact Nat.max_le.mpr ⟨h t List.mem_cons_self, bm_le fun u hu => h u (List.mem_cons_of_mem _ hu)⟩
/-- fit for evaluation -/
def VOk : Nat → Tm → Prop
  | 0, _ => False
  | _ + 1, .ev _ => True
  | n + 1, .nd k ts => ((1 ≤ ts.length ∧ ts.length ≤ 60) ∧ (k = .median → ts.length = 3)) ∧ ∀ t ∈ ts, VOk n t
theorem VOk.arN : ∀ {n : Nat} {t : Tm}, VOk n t → ArN n t
  | 0, _, h => h
  | n + 1, .ev _, _ => trivial
  | n + 1, .nd k ts, h => ⟨h.1.1, fun t ht => (h.2 t ht).arN⟩
theorem VOk.up : ∀ {n : Nat} {t : Tm}, VOk n t → VOk (n + 1) t
  | 0, _, h => h.elim
  | n + 1, .ev _, _ => trivial
  | n + 1, .nd k ts, h => ⟨h.1, fun t ht => (h.2 t ht).up⟩
theorem VOk.le {n m : Nat} (l : n ≤ m) {t : Tm} (h : VOk n t) : VOk m t := by
  induction l with
  | refl => exact h
  | step _ ih => exact ih.up
theorem Good.vok {ss : List Str} : ∀ {n : Nat} {t : Tm}, Good ss n t → VOk n t
  | 0, _, h => h
  | n + 1, .ev s, h => trivial
  | n + 1, .nd k ts, h => ⟨⟨Good.ar (n := n + 1) (t := .nd k ts) h, fun e => by have := h.1; rw [e] at this; exact this⟩, fun t ht => (h.2 t ht).vok⟩
def btG (b : Nat) : Nat → Nat
  | 0 => b
  | n + 1 => 3 * (btG b n + 41) + 2
theorem btG_ge (b : Nat) : ∀ n, b ≤ btG b n
  | 0 => Nat.le_refl _
  | n + 1 => by have := btG_ge b n; rw [btG]; omega
theorem Good.bt {ss : List Str} {b : Nat} : ∀ {n : Nat} {t : Tm}, Good ss (n + 1) t → t.bt b ≤ btG b n
  | n, .ev s, _ => by rw [Tm.bt]; exact btG_ge b n
  | 0, .nd k ts, h => by
    exfalso
    have h1 := (Good.ar (n := 1) (t := .nd k ts) h).1
    obtain ⟨u, hu⟩ : ∃ u, u ∈ ts := by
      cases ts with
      | nil => exact absurd h1 (by simp)
      | cons u _ => exact ⟨u, List.mem_cons_self⟩
    exact h.2 u hu
  | n + 1, .nd k ts, h => by
    have h3 := h.1.three
    have hb := bm_le (b := b) (B := btG b n) fun t ht => (h.2 t ht).bt
    have m1 := Nat.mul_le_mul h3 (Nat.add_le_add_right hb 41)
    rw [Tm.bt, btG]
    omega
def Tbl (K : PySem.W.Frag) (H : Hp) (d : Addr) (ρ : Str → Rat) (ss : List Str) (b : Nat) : Prop := ∃ kvs : List (Key × V), H d = some (.dK kvs) ∧ ∀ s ∈ ss, ∃ v, valV kvs (Sum.inr s : Key) = some v ∧ FR K H v (ρ s) b
theorem Tbl.same {K : PySem.W.Frag} {H H' : Hp} {d : Addr} {ρ : Str → Rat} {ss : List Str} {b : Nat} (h : Tbl K H d ρ ss b) (s : Same H H') : Tbl K H' d ρ ss b := by
  obtain ⟨kvs, e, k⟩ := h
  exact ⟨kvs, s _ _ e, fun x hx => by obtain ⟨v, h1, h2⟩ := k x hx; exact ⟨v, h1, h2.same s⟩⟩
theorem Tbl.sub {K : PySem.W.Frag} {H : Hp} {d : Addr} {ρ : Str → Rat} {ss ts : List Str} {b : Nat} (h : Tbl K H d ρ ss b) (k : ∀ s ∈ ts, s ∈ ss) : Tbl K H d ρ ts b := by
  obtain ⟨kvs, e, z⟩ := h
  exact ⟨kvs, e, fun x hx => z x (k x hx)⟩
theorem Tbl.kp {K : PySem.W.Frag} {H H' : Hp} {r d : Addr} {ρ : Str → Rat} {ss : List Str} {b : Nat} (h : Tbl K H d ρ ss b) (R : Rg H r) (k : Kp r H H') : Tbl K H' d ρ ss b := by
  obtain ⟨kvs, e, z⟩ := h
  have dr : d ≠ r := by
    obtain ⟨c, ns, i, x, kk, R⟩ := R
    exact ne_of e R.hr fun z => by cases z
  exact ⟨kvs, k.1 _ _ dr e, fun x hx => by obtain ⟨v, h1, h2⟩ := z x hx; exact ⟨v, h1, h2.kp R k⟩⟩
theorem flat_mem {ts : List Tm} : ∀ {u : Tm}, u ∈ ts → ∀ s ∈ u.flat, s ∈ Tm.flats ts := by
  induction ts with
  | nil => intro u h; cases h
  | cons t ts ih =>
    intro u h s hs
    rw [Tm.flats]
    rcases List.mem_cons.mp h with z | z
    · rw [z] at hs; exact List.mem_append_left _ hs
    · exact List.mem_append_right _ (ih z s hs)
def spVal (K : PySem.W.Frag) : Nat → Sp
  | 0 => fun _ _ _ _ => False
  | n + 1 => fun vs H Q _ => ∃ (v : V) (d : Addr) (t : Tm) (ρ : Str → Rat) (b : Nat), vs = [v, .ref d] ∧ TmAt K H (n + 1) v t ∧ VOk (n + 1) t ∧ t.bt b ≤ 3900 ∧ Tbl K H d ρ t.flat b ∧ ∀ u H', Same H H' → FR K H' u (t.val ρ) (t.bt b) → Q u H'
theorem TmAt.hd {K : PySem.W.Frag} {H : Hp} {n : Nat} {v : V} {k : Kd} {ts : List Tm} (ht : TmAt K H (n + 1) v (.nd k ts)) : ∃ p ys, v = .ref p ∧ SqT K H p (.str (kdS k) :: ys) := by
  obtain ⟨xs, hN, _⟩ := ht
  cases k with
  | delay f => obtain ⟨p, x, fv, _, e, hp, _⟩ := hN; exact ⟨p, _, e, hp⟩
  | max => obtain ⟨p, e, hp⟩ := hN; exact ⟨p, _, e, hp⟩
  | min => obtain ⟨p, e, hp⟩ := hN; exact ⟨p, _, e, hp⟩
  | median => obtain ⟨p, e, hp⟩ := hN; exact ⟨p, _, e, hp⟩
  | mix ws => obtain ⟨p, ys, e, hp, _⟩ := hN; exact ⟨p, _, e, hp⟩
theorem kd_ev (k : Kd) : decide (kdS k = ("event" : Str)) = false := by
  cases k with
  | delay f => exact (show decide (("delay" : Str) = "event") = false by decide +kernel)
  | max => exact (show decide (("max" : Str) = "event") = false by decide +kernel)
  | min => exact (show decide (("min" : Str) = "event") = false by decide +kernel)
  | median => exact (show decide (("median" : Str) = "event") = false by decide +kernel)
  | mix ws => exact (show decide (("mix" : Str) = "event") = false by decide +kernel)
theorem sum_lmix : ∀ (ws xs : List Rat) (s : Rat), (List.zipWith (· * ·) ws xs).foldl (· + ·) s = s + lmix ws xs
  | [], xs, s => by
    cases xs <;> (show s = s + (0 : Rat); grind)
  | w :: ws, [], s => by show s = s + (0 : Rat); grind
  | w :: ws, x :: xs, s => by
    show (List.zipWith (· * ·) ws xs).foldl (· + ·) (s + w * x) = s + (w * x + lmix ws xs)
    rw [sum_lmix ws xs]
    grind
theorem fr_zero {K : PySem.W.Frag} {H : Hp} {p : Addr} (h : SqT K H p [.int 0, .int 1]) : FR K H (.ref p) 0 1 := FR.mk ⟨p, rfl, h⟩ (bt0 (B := 0))
/-! ### distances -/
def rabs (x : Rat) : Rat := if x < 0 then -x else x
theorem rabs_of (x : Rat) : ofR (rabs x) = ((if (ofR x).1 < 0 then -(ofR x).1 else (ofR x).1), (ofR x).2) := by
  unfold rabs ofR
  have e : x < 0 ↔ x.num < 0 := by
    rw [Rat.lt_iff]
    show x.num * 1 < 0 * (x.den : Int) ↔ _
    rw [Int.mul_one, Int.zero_mul]
  by_cases h : x < 0
  · rw [if_pos h, if_pos (e.mp h), Rat.neg_num, Rat.neg_den]
  · rw [if_neg h, if_neg (fun z => h (e.mpr z))]
theorem Bt.abs {x : Rat} {B : Nat} (h : Bt x B) : Bt (rabs x) B := by
  unfold rabs
  split
  · exact h.neg
  · exact h
theorem rabs_le {x c : Rat} (h : rabs x ≤ c) : x ≤ c ∧ -x ≤ c := by
  unfold rabs at h
  split at h <;> grind
theorem rabs_of_le {x c : Rat} (h1 : x ≤ c) (h2 : -x ≤ c) : rabs x ≤ c := by
  unfold rabs
  split <;> assumption
theorem lmax_ge : ∀ {qs : List Rat} {q : Rat}, q ∈ qs → q ≤ lmax qs
  | [x], q, h => by rw [List.mem_singleton.mp h]; exact Rat.le_refl
  | x :: y :: qs, q, h => by
    show q ≤ max x (lmax (y :: qs))
    rcases List.mem_cons.mp h with z | z
    · rw [z, Rat.max_def]; grind
    · have := lmax_ge z
      rw [Rat.max_def]
      grind

/-! ### tables drawn pair by pair -/
def DTab (K : PySem.W.Frag) (H : Hp) (D : Addr) (ss : List Str) (i : Nat) (qs : List Rat) (b : Nat) : Prop := ∃ (pas : List Addr) (vs : List V), H D = some (.lst (pas.map V.ref)) ∧ pas.length = i ∧ vs.length = i ∧ FRs K H vs qs b ∧ ∀ (j : Nat) p s v, pas[j]? = some p → ss[j]? = some s → vs[j]? = some v → SqT K H p [.str s, v]
theorem DTab.nil {K : PySem.W.Frag} {H : Hp} {D : Addr} {ss : List Str} {b : Nat} : DTab K (upd H D (.lst [])) D ss 0 [] b := ⟨[], [], upd_same, rfl, rfl, FRs.nil, fun j p s v h => by cases h⟩
theorem SqT.put {K : PySem.W.Frag} {H : Hp} {D p : Addr} {l l' xs : List V} (h : SqT K H p xs) (hD : H D = some (.lst l)) : SqT K (upd H D (.lst l')) p xs := by
  rcases h with (z | ⟨o, z⟩) | z
  · exact .inl (.inl (by rw [upd_ne (ne_of z hD (fun y => by cases y))]; exact z))
  · exact .inl (.inr ⟨o, by rw [upd_ne (ne_of z hD (fun y => by cases y))]; exact z⟩)
  · exact .inr z
/-- one pair more: what stood at H1 stands at H2, there the pair (s, v) is made at p -/
theorem DTab.more {K : PySem.W.Frag} {H1 H2 : Hp} {D : Addr} {ss : List Str} {i : Nat} {qs : List Rat} {b : Nat} {s : Str} {v : V} {q : Rat} {p : Addr} (h : DTab K H1 D ss i qs b) (hi : i < 1000) (hs : ss[i]? = some s) (fD : ∀ l, H1 D = some (.lst l) → H2 D = some (.lst l)) (fT : ∀ p xs, SqT K H1 p xs → SqT K H2 p xs) (fv : FR K H2 v q b) (np : H2 p = none) :
    ∃ acc, (upd H2 p (.tup [.str s, v])) D = some (.lst acc) ∧ acc.length < sizeLine ∧ DTab K (upd (upd H2 p (.tup [.str s, v])) D (.lst (acc ++ [.ref p]))) D ss (i + 1) (qs ++ [q]) b := by
  obtain ⟨pas, vs, hD, l1, l2, hF, hP⟩ := h
  have sp := Same.new (o := .tup [.str s, v]) np
  have hD2 := sp _ _ (fD _ hD)
  refine ⟨_, hD2, by rw [List.length_map, l1]; exact szl (by omega), pas ++ [p], vs ++ [v], by rw [upd_same, List.map_append]; rfl, by rw [List.length_append, l1]; rfl, by rw [List.length_append, l2]; rfl, ?_, ?_⟩
  · exact FRs.snoc ⟨hF.1, fun j x f a c => by
      rw [List.getElem?_map] at c
      cases e : qs[j]? with
      | none => rw [e] at c; cases c
      | some q => rw [e] at c; cases c; exact FR.put (FR.same ⟨(by obtain ⟨a', e', z⟩ := (hF.at a e).fr; exact ⟨a', e', fT _ _ z⟩), (hF.at a e).d0, (hF.at a e).g, (hF.at a e).nB, (hF.at a e).dB⟩ sp) hD2⟩ ((fv.same sp).put hD2)
  · intro j p' s' v' e1 e2 e3
    by_cases hj : j < i
    · rw [List.getElem?_append_left (by omega)] at e1 e3
      exact SqT.put (Same.T sp (fT _ _ (hP j p' s' v' e1 e2 e3))) hD2
    · have ej : j = i := by
        have := (List.getElem?_eq_some_iff.mp e1).1
        rw [List.length_append, l1] at this
        have : j < i + 1 := this
        omega
      subst ej
      rw [List.getElem?_append_right (by omega), l1, Nat.sub_self] at e1
      rw [List.getElem?_append_right (by omega), l2, Nat.sub_self] at e3
      cases e1; cases e3
      rw [hs] at e2; cases e2
      exact SqT.put (SqT.of upd_same) hD2
def kvz (ss : List Str) (vs : List V) : List (Key × V) := (ss.zip vs).map fun z => (Sum.inr z.1, z.2)
theorem paired_of {K : PySem.W.Frag} {H : Hp} : ∀ {pas : List Addr} {ss : List Str} {vs : List V}, pas.length = ss.length → vs.length = ss.length → (∀ (j : Nat) p s v, pas[j]? = some p → ss[j]? = some s → vs[j]? = some v → SqT K H p [.str s, v]) → Paired (fun p kv => SqT K H p [kV kv.1, kv.2]) pas (kvz ss vs)
  | [], [], [], _, _, _ => .nil
  | p :: pas, s :: ss, v :: vs, l1, l2, h => .cons (h 0 p s v rfl rfl rfl) (paired_of (by simpa using l1) (by simpa using l2) fun j p' s' v' e1 e2 e3 => h (j + 1) p' s' v' e1 e2 e3)
  | [], _ :: _, _, l1, _, _ => by cases l1
  | _ :: _, [], _, l1, _, _ => by cases l1
  | [], [], _ :: _, _, l2, _ => by cases l2
  | _ :: _, _ :: _, [], _, l2, _ => by cases l2
theorem merge_old : ∀ (l acc : List (Key × V)) (k : Key), (∀ z ∈ l, z.1 ≠ k) → valV (mergeK acc l) k = valV acc k
  | [], _, _, _ => rfl
  | z :: l, acc, k, h => by
    show valV (mergeK (putK acc z.1 z.2) l) k = _
    rw [merge_old l _ k fun y hy => h y (List.mem_cons_of_mem _ hy), valV_put, if_neg fun e => h z List.mem_cons_self e.symm]
theorem merge_at : ∀ {ss : List Str} {vs : List V} {acc : List (Key × V)} {j : Nat} {s : Str} {v : V}, ss.Nodup → ss[j]? = some s → vs[j]? = some v → valV (mergeK acc (kvz ss vs)) (Sum.inr s : Key) = some v
  | [], _, _, _, _, _, _, h, _ => by cases h
  | _ :: _, [], _, _, _, _, _, _, h => by cases h
  | x :: ss, y :: vs, acc, 0, s, v, nd, h1, h2 => by
    cases h1; cases h2
    show valV (mergeK (putK acc (Sum.inr x) y) (kvz ss vs)) _ = _
    rw [merge_old, valV_put, if_pos rfl]
    intro z hz e
    obtain ⟨w, hw, rfl⟩ := List.mem_map.mp hz
    have := (List.of_mem_zip hw).1
    exact (List.nodup_cons.mp nd).1 (Sum.inr.inj e ▸ this)
  | x :: ss, y :: vs, acc, j + 1, s, v, nd, h1, h2 => by
    show valV (mergeK (putK acc (Sum.inr x) y) (kvz ss vs)) _ = _
    exact merge_at (List.nodup_cons.mp nd).2 h1 h2
theorem ex_asg : ∀ {ss : List Str} {qs : List Rat}, ss.Nodup → ∃ ρ : Str → Rat, ∀ (j : Nat) s q, ss[j]? = some s → qs[j]? = some q → ρ s = q
  | [], _, _ => ⟨fun _ => 0, fun j s q h => by cases h⟩
  | x :: ss, [], _ => ⟨fun _ => 0, fun j s q _ h => by cases h⟩
  | x :: ss, y :: qs, nd => by
    obtain ⟨ρ, h⟩ := ex_asg (ss := ss) (qs := qs) (List.nodup_cons.mp nd).2
    refine ⟨fun z => if z = x then y else ρ z, fun j s q h1 h2 => ?_⟩
    cases j with
    | zero => cases h1; cases h2; exact if_pos rfl
    | succ j =>
      have hne : s ≠ x := fun e => (List.nodup_cons.mp nd).1 (e ▸ List.mem_of_getElem? h1)
      show (if s = x then y else ρ s) = q
      rw [if_neg hne]
      exact h j s q h1 h2
/-- dict(..) of the pairs -/
theorem DTab.done {K : PySem.W.Frag} {H : Hp} {D : Addr} {ss : List Str} {qs : List Rat} {b : Nat} (h : DTab K H D ss ss.length qs b) (nd : ss.Nodup) {ρ : Str → Rat} (hρ : ∀ (j : Nat) s q, ss[j]? = some s → qs[j]? = some q → ρ s = q) :
    ∃ (ps : List Addr) (kvs : List (Key × V)), SqL K H D (ps.map V.ref) ∧ Paired (fun p kv => SqT K H p [kV kv.1, kv.2]) ps kvs ∧ ∀ d, H d = none → Tbl K (upd H d (.dK (mergeK [] kvs))) d ρ ss b := by
  obtain ⟨pas, vs, hD, l1, l2, hF, hP⟩ := h
  refine ⟨pas, kvz ss vs, SqL.of hD, paired_of l1 l2 hP, fun d nd' => ⟨_, upd_same, fun s hs => ?_⟩⟩
  obtain ⟨j, hj, e⟩ := List.getElem_of_mem hs
  have hs' : ss[j]? = some s := by rw [List.getElem?_eq_getElem hj, e]
  have hv : vs[j]? = some (vs[j]'(by omega)) := List.getElem?_eq_getElem _
  obtain ⟨q, hq, fq⟩ := hF.get hv
  refine ⟨_, merge_at nd hs' hv, ?_⟩
  rw [hρ j s q hs' hq]
  exact fq.same (Same.new nd')
theorem sum_more {qs : List Rat} {s : Rat} {i : Nat} {q : Rat} (h : qs[i]? = some q) : (qs.take (i + 1)).foldl (· + ·) s = (qs.take i).foldl (· + ·) s + q := by
  rw [List.take_add_one, h, List.foldl_append]
  rfl
theorem ded_mem {l : List Str} {x : Str} : x ∈ ded l ↔ x ∈ l := by
  unfold ded
  rw [fold_mem]
  simp
theorem strs_at {l : List Str} {i : Nat} {x : V} (h : (l.map V.str)[i]? = some x) : ∃ s, l[i]? = some s ∧ x = .str s := by
  rw [List.getElem?_map] at h
  cases e : l[i]? with
  | none => rw [e] at h; cases h
  | some q => rw [e] at h; exact ⟨q, rfl, (Option.some.inj h).symm⟩
theorem med3_in (x y z : Rat) : med3 x y z = x ∨ med3 x y z = y ∨ med3 x y z = z := by
  unfold med3
  simp only [Rat.max_def, Rat.min_def]
  grind
theorem med3_sum (x y z : Rat) : (0 + x + y + z) - (lmin [x, y, z] + lmax [x, y, z]) = med3 x y z := by
  show (0 + x + y + z) - (min x (min y z) + max x (max y z)) = med3 x y z
  unfold med3
  simp only [Rat.max_def, Rat.min_def]
  grind
theorem ofR_bt {q : Rat} {B : Nat} {K : PySem.W.Frag} {H : Hp} {v : V} {C : Nat} (f : FR K H v q B) (b : Bt q C) : FR K H v q C := FR.mk f.fr b
/-! ### tables that may lack names -/
def TabX (K : PySem.W.Frag) (H : Hp) (d : Addr) (kvs : List (Key × V)) (ρ : Str → Rat) (b : Nat) : Prop := H d = some (.dK kvs) ∧ ∀ (s : Str) v, valV kvs (Sum.inr s : Key) = some v → FR K H v (ρ s) b
theorem TabX.same {K : PySem.W.Frag} {H H' : Hp} {d : Addr} {kvs : List (Key × V)} {ρ : Str → Rat} {b : Nat} (h : TabX K H d kvs ρ b) (s : Same H H') : TabX K H' d kvs ρ b := ⟨s _ _ h.1, fun x v e => (h.2 x v e).same s⟩
theorem TabX.kp {K : PySem.W.Frag} {H H' : Hp} {r d : Addr} {kvs : List (Key × V)} {ρ : Str → Rat} {b : Nat} (h : TabX K H d kvs ρ b) (R : Rg H r) (k : Kp r H H') : TabX K H' d kvs ρ b := by
  have dr : d ≠ r := by
    obtain ⟨c, ns, i, x, kk, R⟩ := R
    exact ne_of h.1 R.hr fun z => by cases z
  exact ⟨k.1 _ _ dr h.1, fun x v e => (h.2 x v e).kp R k⟩
def missing (kvs : List (Key × V)) (t : Tm) : List Str := (ded t.flat).filter fun s => (valV kvs (Sum.inr s : Key)).isNone
theorem TabX.tbl {K : PySem.W.Frag} {H : Hp} {d : Addr} {kvs : List (Key × V)} {ρ : Str → Rat} {b : Nat} {t : Tm} (h : TabX K H d kvs ρ b) (m : missing kvs t = []) : Tbl K H d ρ t.flat b := by
  refine ⟨kvs, h.1, fun s hs => ?_⟩
  cases e : valV kvs (Sum.inr s : Key) with
  | some v => exact ⟨v, rfl, h.2 s v e⟩
  | none =>
    exfalso
    have : s ∈ missing kvs t := List.mem_filter.mpr ⟨ded_mem.mpr hs, by rw [e]; rfl⟩
    rw [m] at this
    cases this
theorem TabX.dget {K : PySem.W.Frag} {H : Hp} {d : Addr} {kvs : List (Key × V)} {ρ : Str → Rat} {b : Nat} {s : Str} (h : TabX K H d kvs ρ b) : DGet H d (.str s) (valV kvs (Sum.inr s : Key)) := DGet.k (k := Sum.inr s) h.1
theorem Tbl.full {K : PySem.W.Frag} {H : Hp} {d : Addr} {ρ : Str → Rat} {t : Tm} {b : Nat} (h : Tbl K H d ρ t.flat b) : ∃ kvs, H d = some (.dK kvs) ∧ missing kvs t = [] ∧ ∀ s ∈ t.flat, ∃ v, valV kvs (Sum.inr s : Key) = some v ∧ FR K H v (ρ s) b := by
  obtain ⟨kvs, e, z⟩ := h
  refine ⟨kvs, e, ?_, z⟩
  unfold missing
  rw [List.filter_eq_nil_iff]
  intro s hs
  obtain ⟨v, hv, _⟩ := z s (ded_mem.mp hs)
  rw [hv]
  simp
theorem DTab.ext {K : PySem.W.Frag} {H : Hp} {D : Addr} {ss us : List Str} {qs : List Rat} {b : Nat} (h : DTab K H D ss ss.length qs b) : DTab K H D (ss ++ us) ss.length qs b := by
  obtain ⟨pas, vs, hD, l1, l2, hF, hP⟩ := h
  refine ⟨pas, vs, hD, l1, l2, hF, fun j p s v e1 e2 e3 => hP j p s v e1 ?_ e3⟩
  have jl : j < pas.length := (List.getElem?_eq_some_iff.mp e1).1
  rw [List.getElem?_append_left (by omega)] at e2
  exact e2
theorem put_nd {kvs : List (Key × V)} {k : Key} {v : V} (h : (kvs.map (·.1)).Nodup) : ((putK kvs k v).map (·.1)).Nodup := by
  cases e : valV kvs k with
  | none => exact nd_putK v h e
  | some y =>
    unfold putK
    have : (kvs.any fun kv => decide (kv.1 = k)) = true := by rw [valV_any, e]; rfl
    rw [if_pos this, List.map_map]
    have e2 : (fun kv : Key × V => (if kv.1 = k then (kv.1, v) else kv).1) = fun kv => kv.1 := by
      funext kv
      split <;> rfl
    exact (show (kvs.map fun kv => (if kv.1 = k then (kv.1, v) else kv).1).Nodup by rw [e2]; exact h)
theorem merge_nd : ∀ (l acc : List (Key × V)), (acc.map (·.1)).Nodup → ((mergeK acc l).map (·.1)).Nodup
  | [], _, h => h
  | z :: l, acc, h => merge_nd l (putK acc z.1 z.2) (put_nd h)
theorem DTab.doneX {K : PySem.W.Frag} {H : Hp} {D : Addr} {ss : List Str} {qs : List Rat} {b : Nat} (h : DTab K H D ss ss.length qs b) (nd : ss.Nodup) {ρ : Str → Rat} (hρ : ∀ (j : Nat) s q, ss[j]? = some s → qs[j]? = some q → ρ s = q) :
    ∃ (ps : List Addr) (kvs : List (Key × V)), SqL K H D (ps.map V.ref) ∧ Paired (fun p kv => SqT K H p [kV kv.1, kv.2]) ps kvs ∧ (∀ k, ∀ v, valV (mergeK [] kvs) k = some v → ∃ c, v = V.ref c) ∧ ((mergeK [] kvs).map (·.1)).Nodup ∧ ∀ d, H d = none → TabX K (upd H d (.dK (mergeK [] kvs))) d (mergeK [] kvs) ρ b := by
  obtain ⟨pas, vs, hD, l1, l2, hF, hP⟩ := h
  have key : ∀ k v, valV (mergeK [] (kvz ss vs)) k = some v → ∃ (j : Nat) (s : Str), ss[j]? = some s ∧ vs[j]? = some v ∧ k = Sum.inr s := by
    intro k v e
    by_cases hk : ∃ s ∈ ss, k = Sum.inr s
    · obtain ⟨s, hs, rfl⟩ := hk
      obtain ⟨j, hj, ej⟩ := List.getElem_of_mem hs
      have hs' : ss[j]? = some s := by rw [List.getElem?_eq_getElem hj, ej]
      have hv : vs[j]? = some (vs[j]'(by omega)) := List.getElem?_eq_getElem _
      rw [merge_at nd hs' hv] at e
      cases e
      exact ⟨j, s, hs', hv, rfl⟩
    · rw [merge_old _ _ _ fun z hz e2 => ?_] at e
      · cases e
      · obtain ⟨y, hy, rfl⟩ := List.mem_map.mp hz
        exact hk ⟨y.1, (List.of_mem_zip hy).1, e2.symm⟩
  refine ⟨pas, kvz ss vs, SqL.of hD, paired_of l1 l2 hP, fun k v e => ?_, merge_nd _ _ List.nodup_nil, fun d nd' => ⟨upd_same, fun s v e => ?_⟩⟩
  · obtain ⟨j, s, hs, hv, _⟩ := key k v e
    obtain ⟨q, hq, fq⟩ := hF.get hv
    obtain ⟨c, ec, _⟩ := fq.fr
    exact ⟨c, ec⟩
  · obtain ⟨j, s', hs, hv, es⟩ := key _ v e
    cases es
    obtain ⟨q, hq, fq⟩ := hF.get hv
    rw [hρ j s q hs hq]
    exact fq.same (Same.new nd')
theorem All2.cons1 {R : V → Tm → Prop} {x : V} {t : Tm} {xs : List V} {ts : List Tm} (k : R x t) (h : All2 R xs ts) : All2 R (x :: xs) (t :: ts) :=
  ⟨by rw [List.length_cons, List.length_cons, h.1], fun i y u a b => by
    cases i with
    | zero => cases a; cases b; exact k
    | succ i => exact h.2 i y u a b⟩
theorem all2_ex {R : V → Tm → Prop} {G : Tm → Prop} : ∀ {ys : List V}, (∀ y ∈ ys, ∃ t, R y t ∧ G t) → ∃ ts, All2 R ys ts ∧ ∀ t ∈ ts, G t
  | [], _ => ⟨[], All2.nil, fun t h => by cases h⟩
  | y :: ys, h => by
    obtain ⟨t, r, g⟩ := h y List.mem_cons_self
    obtain ⟨ts, a, b⟩ := all2_ex (ys := ys) fun z hz => h z (List.mem_cons_of_mem _ hz)
    refine ⟨t :: ts, All2.cons1 r a, fun u hu => ?_⟩
    rcases List.mem_cons.mp hu with e | e
    · rw [e]; exact g
    · exact b u e
theorem All2.ex {R : V → Tm → Prop} {G : Tm → Prop} {xs : List V} {ts : List Tm} (h : All2 R xs ts) (g : ∀ t ∈ ts, G t) : ∀ x ∈ xs, ∃ t, R x t ∧ G t := fun x hx => by
  obtain ⟨i, hi, e⟩ := List.getElem_of_mem hx
  obtain ⟨t, ht, r⟩ := h.at (i := i) (x := x) (by rw [List.getElem?_eq_getElem hi, e])
  exact ⟨t, r, g t (List.mem_of_getElem? ht)⟩
/-- a term of the law, wide or not -/
structure FitT (K : PySem.W.Frag) (H : Hp) (ss : List Str) (v : V) (t : Tm) : Prop where
  at' : TmAt K H 12 v t
  vok : VOk 12 t
  fin : ∀ s ∈ t.flat, s ∈ ss
  bt : t.bt 40 ≤ 2705
  size : t.size ≤ 40
  wt : WT ss 4 t
theorem flats_in {ss : List Str} : ∀ {n : Nat} {t : Tm}, Good ss n t → ∀ s ∈ t.flat, s ∈ ss
  | 0, _, h => h.elim
  | n + 1, .ev s, h => fun x hx => by rw [Tm.flat] at hx; rw [List.mem_singleton.mp hx]; exact h
  | n + 1, .nd k ts, h => fun x hx => by
    rw [Tm.flat] at hx
    have go : ∀ us : List Tm, (∀ u ∈ us, ∀ s ∈ u.flat, s ∈ ss) → ∀ x ∈ Tm.flats us, x ∈ ss := by
      intro us
      induction us with
      | nil => intro _ x hx; rw [Tm.flats] at hx; cases hx
      | cons u us ih =>
        intro hh x hx
        rw [Tm.flats] at hx
        rcases List.mem_append.mp hx with z | z
        · exact hh u List.mem_cons_self x z
        · exact ih (fun v hv => hh v (List.mem_cons_of_mem _ hv)) x z
    exact go ts (fun u hu => flats_in (h.2 u hu)) x hx
/-! ### weights -/
theorem toR_red {i S : Int} (hS : S ≠ 0) : toR (red i S) = Rat.divInt i S := by rw [red_R hS, toR_ofR]
theorem sum_div (S : Int) : ∀ is : List Int, (is.map fun i => Rat.divInt i S).sum = Rat.divInt is.sum S
  | [] => by rw [List.map_nil, List.sum_nil, List.sum_nil, Rat.zero_divInt]
  | i :: is => by
    rw [List.map_cons, List.sum_cons, List.sum_cons, sum_div S is, Rat.divInt_eq_div, Rat.divInt_eq_div, Rat.divInt_eq_div, Rat.intCast_add]
    grind
theorem ints_pos : ∀ {is : List Int}, (∀ i ∈ is, 1 ≤ i ∧ i ≤ 4) → is ≠ [] → 0 < is.sum
  | [], _, h => absurd rfl h
  | [i], h, _ => by have := h i List.mem_cons_self; simp; omega
  | i :: j :: is, h, _ => by
    have h1 := h i List.mem_cons_self
    have h2 := ints_pos (is := j :: is) (fun k hk => h k (List.mem_cons_of_mem _ hk)) (by simp)
    rw [List.sum_cons]
    omega
theorem ShW.nice {ws : List QQ} (h : ShW ws) (n0 : ws ≠ []) : (∀ w ∈ ws.map toR, 0 ≤ w) ∧ (ws.map toR).sum = 1 := by
  obtain ⟨is, hi, _, rfl⟩ := h
  have ne : is ≠ [] := fun z => n0 (by rw [z]; rfl)
  have S0 := ints_pos hi ne
  have e : (is.map fun i => red i is.sum).map toR = is.map fun i => Rat.divInt i is.sum := by
    rw [List.map_map]
    exact List.map_congr_left fun i _ => toR_red (by omega)
  rw [e]
  refine ⟨fun w hw => ?_, ?_⟩
  · obtain ⟨i, hm, rfl⟩ := List.mem_map.mp hw
    exact (Rat.divInt_nonneg_iff_of_pos_right S0).mpr (by have := hi i hm; omega)
  · rw [sum_div, Rat.divInt_eq_div]
    have hz : ((is.sum : Int) : Rat) ≠ 0 := fun z => by
      have : is.sum = 0 := by exact_mod_cast z
      omega
    grind
/-! ### terms that may be malformed -/
inductive Rk where
  | ev (ss : List Str) | dl (f : Option QQ) | mx (ws : List QQ) | nn (k : Str)
inductive Rw where
  | mk (k : Rk) (ts : List Rw) : Rw
def Rw.subs : Rw → List Rw
  | .mk _ ts => ts
def Rw.kd : Rw → Rk
  | .mk k _ => k
mutual
def Rw.size : Rw → Nat
  | .mk _ ts => 1 + Rw.sizes ts
def Rw.sizes : List Rw → Nat
  | [] => 0
  | t :: ts => t.size + Rw.sizes ts
end
mutual
def Rw.depth : Rw → Nat
  | .mk _ ts => 1 + Rw.depths ts
def Rw.depths : List Rw → Nat
  | [] => 0
  | t :: ts => Nat.max t.depth (Rw.depths ts)
end
theorem Rw.size_eq (t : Rw) : t.size = 1 + Rw.sizes t.subs := by cases t; rw [Rw.size]; rfl
theorem Rw.sizes_app : ∀ a b : List Rw, Rw.sizes (a ++ b) = Rw.sizes a + Rw.sizes b
  | [], b => by rw [List.nil_append, Rw.sizes]; omega
  | x :: a, b => by rw [List.cons_append, Rw.sizes, Rw.sizes, Rw.sizes_app a b]; omega
theorem Rw.sizes_len : ∀ ts : List Rw, ts.length ≤ Rw.sizes ts
  | [] => Nat.zero_le _
  | t :: ts => by
    have := Rw.sizes_len ts
    rw [Rw.sizes, List.length_cons, t.size_eq]
    omega
def fracB (f : QQ) : Bool := (decide (f.1.natAbs ≤ 999999999999) && (decide (1 ≤ f.2) && decide (f.2 ≤ 999999999999))) && decide (red f.1 f.2 = f)
def evB : List Str → Bool
  | [s] => nameB s
  | _ => false
def formK : Rk → Nat → Bool
  | .ev ss, _ => evB ss
  | .dl none, _ => false
  | .dl (some f), _ => fracB f
  | .mx ws, m => (decide (1 ≤ m) && decide (m ≤ 6)) && ((ws.all fun w => fracB w && decide (0 < w.1)) && decide (ws.foldl radd (0, 1) = (1, 1)))
  | .nn k, m => if k = "median" then decide (m = 3) else (decide (k = "max") || decide (k = "min")) && (decide (1 ≤ m) && decide (m ≤ 6))
def Rw.form (t : Rw) : Bool := formK t.kd t.subs.length
def isT : Nat → Rw → Bool
  | 0, _ => false
  | n + 1, t => t.form && t.subs.all (isT n)
/-- level by level -/
def bfs : Nat → List Rw → Nat → Bool
  | 0, l, _ => l.isEmpty
  | n + 1, l, s => l.isEmpty || (decide (s + l.length ≤ 40) && (l.all Rw.form && bfs n (l.flatMap Rw.subs) (s + l.length)))
theorem bfs_succ (n : Nat) (l : List Rw) (s : Nat) : bfs (n + 1) l s = (l.isEmpty || (decide (s + l.length ≤ 40) && (l.all Rw.form && bfs n (l.flatMap Rw.subs) (s + l.length)))) := rfl
theorem sizes_flat : ∀ l : List Rw, Rw.sizes l = l.length + Rw.sizes (l.flatMap Rw.subs)
  | [] => by rw [Rw.sizes]; rfl
  | t :: l => by
    have := sizes_flat l
    rw [List.flatMap_cons, Rw.sizes, Rw.sizes_app, List.length_cons, t.size_eq]
    omega
theorem bfs_eq : ∀ (n : Nat) (l : List Rw) (s : Nat), s ≤ 40 → bfs n l s = (l.all (isT n) && decide (s + Rw.sizes l ≤ 40))
  | 0, l, s, hs => by
    unfold bfs
    cases l with
    | nil => rw [Rw.sizes, decide_eq_true (by omega)]; rfl
    | cons t l => rfl
  | n + 1, l, s, hs => by
    unfold bfs
    cases l with
    | nil => rw [Rw.sizes, decide_eq_true (show s + 0 ≤ 40 by omega)]; rfl
    | cons t l =>
      have hl := Rw.sizes_len (t :: l)
      show (decide (s + (t :: l).length ≤ 40) && _) = _
      by_cases h : s + (t :: l).length ≤ 40
      · rw [decide_eq_true h, bfs_eq n _ _ h, Bool.true_and]
        have e : s + Rw.sizes (t :: l) = s + (t :: l).length + Rw.sizes ((t :: l).flatMap Rw.subs) := by rw [sizes_flat]; omega
        rw [e, ← Bool.and_assoc]
        congr 1
        have key : ∀ m : List Rw, (m.all Rw.form && (m.flatMap Rw.subs).all (isT n)) = m.all (isT (n + 1)) := by
          intro m
          induction m with
          | nil => rfl
          | cons x m ih =>
            rw [List.flatMap_cons, List.all_append, List.all_cons, List.all_cons, ← ih]
            show _ = (x.form && x.subs.all (isT n) && _)
            cases x.form <;> cases (x.subs.all (isT n)) <;> cases (m.all Rw.form) <;> cases ((m.flatMap Rw.subs).all (isT n)) <;> rfl
        exact key (t :: l)
      · rw [decide_eq_false h, Bool.false_and, decide_eq_false (show ¬ s + Rw.sizes (t :: l) ≤ 40 by omega), Bool.and_false]
/-! ### in memory -/
def All3 (R : V → Rw → Prop) (xs : List V) (ts : List Rw) : Prop := xs.length = ts.length ∧ ∀ (i : Nat) x t, xs[i]? = some x → ts[i]? = some t → R x t
theorem All3.mono {R S : V → Rw → Prop} {xs : List V} {ts : List Rw} (h : All3 R xs ts) (k : ∀ x t, R x t → S x t) : All3 S xs ts := ⟨h.1, fun i x t a b => k x t (h.2 i x t a b)⟩
theorem All3.nil {R : V → Rw → Prop} : All3 R [] [] := ⟨rfl, fun i x t h => by cases h⟩
theorem All3.cons {R : V → Rw → Prop} {x : V} {t : Rw} {xs : List V} {ts : List Rw} (k : R x t) (h : All3 R xs ts) : All3 R (x :: xs) (t :: ts) :=
  ⟨by rw [List.length_cons, List.length_cons, h.1], fun i y u a b => by
    cases i with
    | zero => cases a; cases b; exact k
    | succ i => exact h.2 i y u a b⟩
theorem All3.one {R : V → Rw → Prop} {x : V} {t : Rw} (k : R x t) : All3 R [x] [t] := All3.cons k All3.nil
theorem All3.at {R : V → Rw → Prop} {xs : List V} {ts : List Rw} (h : All3 R xs ts) {i : Nat} {x : V} (hx : xs[i]? = some x) : ∃ t, ts[i]? = some t ∧ R x t := by
  have l : i < ts.length := by rw [← h.1]; exact (List.getElem?_eq_some_iff.mp hx).1
  exact ⟨ts[i], List.getElem?_eq_getElem l, h.2 i x _ hx (List.getElem?_eq_getElem l)⟩
theorem All3.app {R : V → Rw → Prop} {xs ys : List V} {ts us : List Rw} (a : All3 R xs ts) (b : All3 R ys us) : All3 R (xs ++ ys) (ts ++ us) := by
  refine ⟨by rw [List.length_append, List.length_append, a.1, b.1], fun i x t h1 h2 => ?_⟩
  by_cases hi : i < xs.length
  · rw [List.getElem?_append_left hi] at h1
    rw [List.getElem?_append_left (by rw [← a.1]; exact hi)] at h2
    exact a.2 i x t h1 h2
  · rw [List.getElem?_append_right (by omega)] at h1
    rw [List.getElem?_append_right (by rw [← a.1]; omega), ← a.1] at h2
    exact b.2 _ x t h1 h2
theorem All3.rep {R : V → Rw → Prop} {x : V} {t : Rw} (k : R x t) : ∀ n, All3 R (List.replicate n x) (List.replicate n t)
  | 0 => All3.nil
  | n + 1 => All3.cons k (All3.rep k n)
structure FrW (K : PySem.W.Frag) (H : Hp) (v : V) (f : QQ) : Prop where
  fr : Fr K H v f.1 f.2
  nB : f.1.natAbs < 2 ^ 120
  dB : f.2.natAbs < 2 ^ 120
def RNode (K : PySem.W.Frag) (H : Hp) (v : V) : Rk → List V → Prop
  | .ev ss, xs => xs = [] ∧ ss.length ≤ 2000 ∧ (∀ s ∈ ss, s.length ≤ 4000) ∧ ∃ p, v = .ref p ∧ SqT K H p (.str "event" :: ss.map V.str)
  | .dl none, xs => ∃ p x, xs = [x] ∧ v = .ref p ∧ SqT K H p [.str "delay", x]
  | .dl (some f), xs => ∃ p x fv, xs = [x] ∧ v = .ref p ∧ SqT K H p [.str "delay", x, fv] ∧ FrW K H fv f
  | .mx ws, xs => ∃ p ys, v = .ref p ∧ SqT K H p (.str "mix" :: ys) ∧ ys.length = xs.length ∧ ws.length = xs.length ∧ ∀ (i : Nat) y x f, ys[i]? = some y → xs[i]? = some x → ws[i]? = some f → ∃ q wv, y = .ref q ∧ SqT K H q [wv, x] ∧ FrW K H wv f
  | .nn k, xs => k ≠ "event" ∧ k ≠ "delay" ∧ k ≠ "mix" ∧ ∃ p, v = .ref p ∧ SqT K H p (.str k :: xs)
def RwAt (K : PySem.W.Frag) (H : Hp) : Nat → V → Rw → Prop
  | 0, _, _ => False
  | n + 1, v, .mk k ts => ts.length ≤ 2000 ∧ ∃ xs, RNode K H v k xs ∧ All3 (RwAt K H n) xs ts
section
variable {K : PySem.W.Frag} {H H' : Hp}
theorem FrW.imp {v : V} {f : QQ} (h : FrW K H v f) (sT : ∀ p xs, SqT K H p xs → SqT K H' p xs) : FrW K H' v f := ⟨(by obtain ⟨p, e, z⟩ := h.fr; exact ⟨p, e, sT _ _ z⟩), h.nB, h.dB⟩
theorem RNode.imp (sT : ∀ p xs, SqT K H p xs → SqT K H' p xs) {v : V} {k : Rk} {xs : List V} (h : RNode K H v k xs) : RNode K H' v k xs := by
  match k, h with
  | .ev ss, ⟨a, b, c, p, e, z⟩ => exact ⟨a, b, c, p, e, sT _ _ z⟩
  | .dl none, ⟨p, x, e1, e2, z⟩ => exact ⟨p, x, e1, e2, sT _ _ z⟩
  | .dl (some f), ⟨p, x, fv, e1, e2, z, w⟩ => exact ⟨p, x, fv, e1, e2, sT _ _ z, w.imp sT⟩
  | .mx ws, ⟨p, ys, e, z, l1, l2, h⟩ =>
    refine ⟨p, ys, e, sT _ _ z, l1, l2, fun i y x f a b c => ?_⟩
    obtain ⟨q, wv, e', h3, h4⟩ := h i y x f a b c
    exact ⟨q, wv, e', sT _ _ h3, h4.imp sT⟩
  | .nn k, ⟨a, b, c, p, e, z⟩ => exact ⟨a, b, c, p, e, sT _ _ z⟩
theorem RwAt.imp (sT : ∀ p xs, SqT K H p xs → SqT K H' p xs) : ∀ {n : Nat} {v : V} {t : Rw}, RwAt K H n v t → RwAt K H' n v t
  | 0, _, _, h => h
  | n + 1, v, .mk k ts, h => by
    obtain ⟨l, xs, h1, h2⟩ := h
    exact ⟨l, xs, h1.imp sT, h2.mono fun x t z => RwAt.imp sT z⟩
theorem RwAt.same (s : Same H H') {n : Nat} {v : V} {t : Rw} (h : RwAt K H n v t) : RwAt K H' n v t := h.imp fun _ _ z => Same.T s z
theorem RwAt.kp {r : Addr} (R : Rg H r) (k : Kp r H H') {n : Nat} {v : V} {t : Rw} (h : RwAt K H n v t) : RwAt K H' n v t := h.imp fun _ _ z => RgT R k z
theorem sqPut {D p : Addr} {l l' xs : List V} (h : SqT K H p xs) (hD : H D = some (.lst l)) : SqT K (upd H D (.lst l')) p xs := by
  rcases h with (z | ⟨o, z⟩) | z
  · exact .inl (.inl (by rw [upd_ne (ne_of z hD (fun y => by cases y))]; exact z))
  · exact .inl (.inr ⟨o, by rw [upd_ne (ne_of z hD (fun y => by cases y))]; exact z⟩)
  · exact .inr z
theorem RwAt.put {D : Addr} {l l' : List V} (hD : H D = some (.lst l)) {n : Nat} {v : V} {t : Rw} (h : RwAt K H n v t) : RwAt K (upd H D (.lst l')) n v t := h.imp fun _ _ z => sqPut z hD
theorem RwAt.up : ∀ {n : Nat} {v : V} {t : Rw}, RwAt K H n v t → RwAt K H (n + 1) v t
  | 0, _, _, h => h.elim
  | n + 1, v, .mk k ts, h => by
    obtain ⟨l, xs, h1, h2⟩ := h
    exact ⟨l, xs, h1, h2.mono fun x t z => RwAt.up z⟩
theorem RwAt.le {n m : Nat} (l : n ≤ m) {v : V} {t : Rw} (h : RwAt K H n v t) : RwAt K H m v t := by
  induction l with
  | refl => exact h
  | step _ ih => exact ih.up
end
/-- a tuple that begins with a text, n items in all -/
theorem RwAt.hd {K : PySem.W.Frag} {H : Hp} {n : Nat} {v : V} {t : Rw} (h : RwAt K H (n + 1) v t) : ∃ p k ys, v = .ref p ∧ SqT K H p (.str k :: ys) ∧ ys.length ≤ 2000 := by
  match t, h with
  | .mk (.ev ss) ts, ⟨l, xs, ⟨_, b, _, p, e, z⟩, h2⟩ => exact ⟨p, _, _, e, z, by rw [List.length_map]; exact b⟩
  | .mk (.dl none) ts, ⟨l, xs, ⟨p, x, e1, e2, z⟩, h2⟩ => exact ⟨p, _, _, e2, z, by show 1 ≤ 2000; decide⟩
  | .mk (.dl (some f)) ts, ⟨l, xs, ⟨p, x, fv, e1, e2, z, w⟩, h2⟩ => exact ⟨p, _, _, e2, z, by show 2 ≤ 2000; decide⟩
  | .mk (.mx ws) ts, ⟨l, xs, ⟨p, ys, e, z, l1, l2, _⟩, h2⟩ => exact ⟨p, _, _, e, z, by rw [l1, h2.1]; exact l⟩
  | .mk (.nn k) ts, ⟨l, xs, ⟨_, _, _, p, e, z⟩, h2⟩ => exact ⟨p, _, _, e, z, by rw [h2.1]; exact l⟩
theorem FrW.same {K : PySem.W.Frag} {H H' : Hp} {v : V} {f : QQ} (h : FrW K H v f) (s : Same H H') : FrW K H' v f := h.imp fun _ _ z => Same.T s z
/-- from a drawn term -/
def Kd.raw : Kd → Rk
  | .delay f => .dl (some f) | .max => .nn "max" | .min => .nn "min" | .median => .nn "median" | .mix ws => .mx ws
mutual
def Tm.raw : Tm → Rw
  | .ev s => .mk (.ev [s]) []
  | .nd k ts => .mk k.raw (Tm.raws ts)
def Tm.raws : List Tm → List Rw
  | [] => []
  | t :: ts => t.raw :: Tm.raws ts
end
theorem raws_map : ∀ ts : List Tm, Tm.raws ts = ts.map Tm.raw
  | [] => by rw [Tm.raws]; rfl
  | t :: ts => by rw [Tm.raws, raws_map ts]; rfl
theorem TmAt.raw {K : PySem.W.Frag} {H : Hp} {ss : List Str} (hs : ∀ s ∈ ss, s.length ≤ 4000) : ∀ {n : Nat} {v : V} {t : Tm}, TmAt K H n v t → Good ss n t → RwAt K H n v t.raw
  | 0, _, _, h, _ => h.elim
  | n + 1, v, .ev s, h, g => by
    obtain ⟨p, e, z⟩ := h
    rw [Tm.raw]
    refine ⟨Nat.zero_le _, [], ⟨rfl, by show 1 ≤ 2000; decide, fun x hx => ?_, p, e, z⟩, All3.nil⟩
    rw [List.mem_singleton.mp hx]; exact hs s g
  | n + 1, v, .nd k ts, h, g => by
    obtain ⟨xs, h1, h2⟩ := h
    have h3 := g.1.three
    rw [Tm.raw, raws_map]
    have fw : ∀ {v f}, FrB K H v f.1 f.2 40 → FrW K H v f := fun z => ⟨z.fr, Nat.lt_of_lt_of_le z.nB (Nat.pow_le_pow_right (by decide) (by decide)), Nat.lt_of_lt_of_le z.dB (Nat.pow_le_pow_right (by decide) (by decide))⟩
    refine ⟨by rw [List.length_map]; omega, xs, ?_, ?_⟩
    · cases k with
      | delay f => obtain ⟨p, x, fv, e1, e2, z, w⟩ := h1; exact ⟨p, x, fv, e1, e2, z, fw w⟩
      | max => obtain ⟨p, e, z⟩ := h1; exact ⟨by decide +kernel, by decide +kernel, by decide +kernel, p, e, z⟩
      | min => obtain ⟨p, e, z⟩ := h1; exact ⟨by decide +kernel, by decide +kernel, by decide +kernel, p, e, z⟩
      | median => obtain ⟨p, e, z⟩ := h1; exact ⟨by decide +kernel, by decide +kernel, by decide +kernel, p, e, z⟩
      | mix ws =>
        obtain ⟨p, ys, e, z, l1, l2, hm⟩ := h1
        refine ⟨p, ys, e, z, l1, l2, fun i y x f a b c => ?_⟩
        obtain ⟨q, wv, e', h3, h4⟩ := hm i y x f a b c
        exact ⟨q, wv, e', h3, fw h4⟩
    · refine ⟨by rw [List.length_map]; exact h2.1, fun i x t a b => ?_⟩
      rw [List.getElem?_map] at b
      cases e : ts[i]? with
      | none => rw [e] at b; cases b
      | some u =>
        rw [e] at b
        cases b
        exact TmAt.raw hs (h2.2 i x u a e) (g.2 u (List.mem_of_getElem? e))
mutual
theorem raw_size : ∀ t : Tm, t.raw.size = t.size
  | .ev s => by rw [Tm.raw, Rw.size, Rw.sizes, Tm.size]
  | .nd k ts => by rw [Tm.raw, Rw.size, Tm.size, raw_sizes ts]
theorem raw_sizes : ∀ ts : List Tm, Rw.sizes (Tm.raws ts) = Tm.sizes ts
  | [] => by rw [Tm.raws, Rw.sizes, Tm.sizes]
  | t :: ts => by rw [Tm.raws, Rw.sizes, Tm.sizes, raw_size t, raw_sizes ts]
end
theorem sqL_ty {K : PySem.W.Frag} {H : Hp} {a : Addr} {xs : List V} (h : SqT K H a xs) : TyX K H (.ref a) (.type "tuple") := tyT h
theorem absL (i : Int) : decide ((if i < 0 then -i else i) ≤ 999999999999) = decide (i.natAbs ≤ 999999999999) := decide_eq_decide.mpr (by split <;> omega)
theorem fr_eqv (f g : QQ) : PyData.eqv (.tuple [.int f.1, .int f.2]) (.tuple [.int g.1, .int g.2]) = decide (f = g) := by
  simp only [PyData.eqv, PyData.eqvAll, Bool.and_true]
  by_cases h1 : f.1 = g.1
  · by_cases h2 : f.2 = g.2
    · rw [decide_eq_true (Prod.ext h1 h2)]; simp [h1, h2]
    · rw [decide_eq_false (fun z => h2 (by rw [z]))]; simp [h2]
  · rw [decide_eq_false (fun z => h1 (by rw [z]))]; simp [h1]
theorem fracB_low {f : QQ} (h : fracB f = true) : 0 < f.2 ∧ Int.gcd f.1 f.2 = 1 := by
  unfold fracB at h
  rw [Bool.and_eq_true, Bool.and_eq_true, Bool.and_eq_true, decide_eq_true_eq, decide_eq_true_eq, decide_eq_true_eq, decide_eq_true_eq] at h
  obtain ⟨⟨h1, h2, h3⟩, h4⟩ := h
  refine ⟨by omega, ?_⟩
  have g := red_gcd (n := f.1) (d := f.2) (by omega)
  rw [h4] at g
  exact g
theorem fracB_bd {f : QQ} (h : fracB f = true) : f.1.natAbs < 2 ^ 40 ∧ f.2.natAbs < 2 ^ 40 := by
  unfold fracB at h
  rw [Bool.and_eq_true, Bool.and_eq_true, Bool.and_eq_true, decide_eq_true_eq, decide_eq_true_eq, decide_eq_true_eq, decide_eq_true_eq] at h
  obtain ⟨⟨h1, h2, h3⟩, h4⟩ := h
  exact ⟨by omega, by omega⟩
/-- the direct subterms, as a new list -/
def spSubsR (K : PySem.W.Frag) : Sp := fun vs H Q _ => ∃ (v : V) (t : Rw) (n : Nat), vs = [v] ∧ RwAt K H (n + 1) v t ∧ ∀ l H' xs, Same H H' → H l = none → H' l = some (.lst xs) → All3 (RwAt K H' n) xs t.subs → Q (.ref l) H'
theorem in2 (kk : Str) : inV (.str kk) [.str "max", .str "min"] = (decide (kk = "max") || decide (kk = "min")) := by
  have e := in_strs kk ["max", "min"]
  have e' : inV (.str kk) [.str "max", .str "min"] = decide (kk ∈ (["max", "min"] : List Str)) := e
  rw [e']
  by_cases h1 : kk = "max"
  · rw [decide_eq_true h1, Bool.true_or]
    exact decide_eq_true (by rw [h1]; exact List.mem_cons_self)
  · rw [decide_eq_false h1, Bool.false_or]
    refine decide_eq_decide.mpr ⟨fun h => ?_, fun h => by rw [h]; exact List.mem_cons_of_mem _ List.mem_cons_self⟩
    rcases List.mem_cons.mp h with z | z
    · exact absurd z h1
    · exact List.mem_singleton.mp z
def RAr : Nat → Rw → Prop
  | 0, _ => False
  | n + 1, t => t.subs.length ≤ 2000 ∧ ∀ u ∈ t.subs, RAr n u
theorem RwAt.ar {K : PySem.W.Frag} {H : Hp} : ∀ {n : Nat} {v : V} {t : Rw}, RwAt K H n v t → RAr n t
  | 0, _, _, h => h
  | n + 1, v, .mk k ts, h => by
    obtain ⟨l, xs, h1, h2⟩ := h
    refine ⟨l, fun u hu0 => ?_⟩
    have hu : u ∈ ts := hu0
    obtain ⟨i, hi, e⟩ := List.getElem_of_mem hu
    have hu' : ts[i]? = some u := by rw [List.getElem?_eq_getElem hi, e]
    have hx : xs[i]? = some (xs[i]'(by rw [h2.1]; exact hi)) := List.getElem?_eq_getElem _
    exact RwAt.ar (h2.2 i _ u hx hu')
def spSizeR (K : PySem.W.Frag) : Nat → Sp
  | 0 => fun _ _ _ _ => False
  | n + 1 => fun vs H Q _ => ∃ (v : V) (t : Rw), vs = [v] ∧ RwAt K H (n + 1) v t ∧ ∀ H', Same H H' → Q (.int (t.size : Nat)) H'
def spDepthR (K : PySem.W.Frag) : Nat → Sp
  | 0 => fun _ _ _ _ => False
  | n + 1 => fun vs H Q _ => ∃ (v : V) (t : Rw), vs = [v] ∧ RwAt K H (n + 1) v t ∧ ∀ H', Same H H' → Q (.int (t.depth : Nat)) H'
theorem Rw.sizes_eq : ∀ ts : List Rw, Rw.sizes ts = (ts.map Rw.size).sum
  | [] => by rw [Rw.sizes]; rfl
  | t :: ts => by rw [Rw.sizes, Rw.sizes_eq ts, List.map_cons, List.sum_cons]
theorem Rw.depth_eq (t : Rw) : t.depth = 1 + Rw.depths t.subs := by cases t; rw [Rw.depth]; rfl
theorem rdepths_ge : ∀ {ts : List Rw} {u : Rw}, u ∈ ts → u.depth ≤ Rw.depths ts
  | t :: ts, u, h => by
    rw [Rw.depths]
    rcases List.mem_cons.mp h with z | z
    · rw [z]; exact Nat.le_max_left _ _
    · exact Nat.le_trans (rdepths_ge z) (Nat.le_max_right _ _)
theorem rdepths_in : ∀ {ts : List Rw}, ts ≠ [] → ∃ u ∈ ts, Rw.depths ts = u.depth
  | [], h => absurd rfl h
  | t :: ts, _ => by
    rw [Rw.depths]
    by_cases q : ts = []
    · subst q
      exact ⟨t, List.mem_cons_self, by rw [Rw.depths]; exact Nat.max_eq_left (Nat.zero_le _)⟩
    · obtain ⟨u, hu, e⟩ := rdepths_in q
      by_cases c : Rw.depths ts ≤ t.depth
      · exact ⟨t, List.mem_cons_self, Nat.max_eq_left c⟩
      · exact ⟨u, List.mem_cons_of_mem _ hu, by rw [← e]; exact Nat.max_eq_right (by omega)⟩
theorem rdepths_max {ts : List Rw} {m : Int} (hm : m ∈ ts.map (fun u => (u.depth : Int))) (hk : ∀ k ∈ ts.map (fun u => (u.depth : Int)), k ≤ m) : (Rw.depths ts : Int) = m := by
  obtain ⟨u, hu, rfl⟩ := List.mem_map.mp hm
  have h1 := rdepths_ge hu
  obtain ⟨v, hv, e⟩ := rdepths_in (ts := ts) (fun z => by rw [z] at hu; cases hu)
  have h2 := hk _ (List.mem_map.mpr ⟨v, hv, rfl⟩)
  have h2' : (v.depth : Int) ≤ (u.depth : Int) := h2
  omega
def spIsT (K : PySem.W.Frag) : Nat → Sp
  | 0 => fun _ _ _ _ => False
  | n + 1 => fun vs H Q _ => ∃ (v : V) (t : Rw) (d m : Nat), vs = [v, .int (d : Nat)] ∧ d ≤ n ∧ d < m ∧ RwAt K H m v t ∧ ∀ H', Same H H' → Q (.bl (isT d t)) H'
def Rk.nm : Rk → Str
  | .ev _ => "event" | .dl _ => "delay" | .mx _ => "mix" | .nn k => k
/-- the items behind the name, and the subterms among them -/
def RRest (K : PySem.W.Frag) (H : Hp) : Rk → List V → List V → Prop
  | .ev ss, ys, xs => xs = [] ∧ ss.length ≤ 2000 ∧ (∀ s ∈ ss, s.length ≤ 4000) ∧ ys = ss.map V.str
  | .dl none, ys, xs => ∃ x, xs = [x] ∧ ys = [x]
  | .dl (some f), ys, xs => ∃ x fv, xs = [x] ∧ ys = [x, fv] ∧ FrW K H fv f
  | .mx ws, ys, xs => ys.length = xs.length ∧ ws.length = xs.length ∧ ∀ (i : Nat) y x f, ys[i]? = some y → xs[i]? = some x → ws[i]? = some f → ∃ q wv, y = .ref q ∧ SqT K H q [wv, x] ∧ FrW K H wv f
  | .nn k, ys, xs => k ≠ "event" ∧ k ≠ "delay" ∧ k ≠ "mix" ∧ ys = xs
theorem RNode.nm {K : PySem.W.Frag} {H : Hp} {v : V} {k : Rk} {xs : List V} (h : RNode K H v k xs) : ∃ p ys, v = .ref p ∧ SqT K H p (.str k.nm :: ys) ∧ RRest K H k ys xs := by
  match k, h with
  | .ev ss, ⟨a, b, c, p, e, z⟩ => exact ⟨p, _, e, z, a, b, c, rfl⟩
  | .dl none, ⟨p, x, e1, e2, z⟩ => exact ⟨p, _, e2, z, x, e1, rfl⟩
  | .dl (some f), ⟨p, x, fv, e1, e2, z, w⟩ => exact ⟨p, _, e2, z, x, fv, e1, rfl, w⟩
  | .mx ws, ⟨p, ys, e, z, h⟩ => exact ⟨p, ys, e, z, h⟩
  | .nn k, ⟨a, b, c, p, e, z⟩ => exact ⟨p, _, e, z, a, b, c, rfl⟩
theorem RRest.nd {K : PySem.W.Frag} {H : Hp} {p : Addr} {k : Rk} {ys xs : List V} (h : RRest K H k ys xs) (z : SqT K H p (.str k.nm :: ys)) : RNode K H (.ref p) k xs := by
  match k, h with
  | .ev ss, ⟨a, b, c, e⟩ => subst e; exact ⟨a, b, c, p, rfl, z⟩
  | .dl none, ⟨x, e1, e⟩ => subst e; exact ⟨p, x, e1, rfl, z⟩
  | .dl (some f), ⟨x, fv, e1, e, w⟩ => subst e; exact ⟨p, x, fv, e1, rfl, z, w⟩
  | .mx ws, h => exact ⟨p, ys, rfl, z, h⟩
  | .nn k, ⟨a, b, c, e⟩ => subst e; exact ⟨a, b, c, p, rfl, z⟩
theorem form_nil {K : PySem.W.Frag} {H : Hp} {k : Rk} {xs : List V} (h : RRest K H k [] xs) : formK k xs.length = false := by
  match k, h with
  | .ev [], _ => rfl
  | .ev (s :: ss), ⟨_, _, _, e⟩ => cases e
  | .dl none, ⟨x, e1, e⟩ => cases e
  | .dl (some f), ⟨x, fv, e1, e, w⟩ => cases e
  | .mx ws, ⟨l1, l2, _⟩ => rw [← l1]; rfl
  | .nn k, ⟨_, _, _, e⟩ =>
    subst e
    show (if k = "median" then decide (0 = 3) else (decide (k = "max") || decide (k = "min")) && (decide (1 ≤ 0) && decide (0 ≤ 6))) = false
    split
    · rfl
    · exact Bool.and_false _
def kinds : List Str := ["event", "delay", "max", "min", "median", "mix"]
theorem form_kind {k : Rk} {n : Nat} (h : k.nm ∉ kinds) : formK k n = false := by
  match k with
  | .ev _ => exact absurd List.mem_cons_self h
  | .dl _ => exact absurd (List.mem_cons_of_mem _ List.mem_cons_self) h
  | .mx _ => exact absurd (by decide +kernel : ("mix" : Str) ∈ kinds) h
  | .nn k =>
    have h1 : k ≠ "median" := fun e => h (by rw [e]; exact (by decide +kernel : ("median" : Str) ∈ kinds))
    have h2 : k ≠ "max" := fun e => h (by rw [e]; exact (by decide +kernel : ("max" : Str) ∈ kinds))
    have h3 : k ≠ "min" := fun e => h (by rw [e]; exact (by decide +kernel : ("min" : Str) ∈ kinds))
    show (if k = "median" then _ else _) = false
    rw [if_neg h1, decide_eq_false h2, decide_eq_false h3]
    rfl
theorem go_ifS {c : TT} {t u : TS} {D : Ends} {σ : L2.St} {H : Hp} (b : Bool) (H1 : Hp) (step : ∀ Q : Bool → Hp → Prop, Q b H1 → c σ H Q) (h : if b = true then t D σ H1 else u D σ H1) : tIfS c t u D σ H := step _ h
def wB (f : QQ) : Bool := fracB f && decide (0 < f.1)
def mixB (ws : List QQ) : Bool := (ws.all fun w => fracB w && decide (0 < w.1)) && decide (ws.foldl radd (0, 1) = (1, 1))
/-! ### ways into a term -/
def at? : Rw → List Nat → Option Rw
  | t, [] => some t
  | t, i :: is => t.subs[i]?.bind fun u => at? u is
def VI (is : List Nat) : List V := is.map fun (i : Nat) => V.int ((i : Nat) : Int)
/-- a tuple of the way ns, and behind it a way of t -/
def WayAt (K : PySem.W.Frag) (H : Hp) (t : Rw) (ns : List Nat) (x : V) : Prop := ∃ p is u, x = .ref p ∧ SqT K H p (VI (ns ++ is)) ∧ at? t is = some u
theorem WayAt.same {K : PySem.W.Frag} {H H' : Hp} {t : Rw} {ns : List Nat} {x : V} (h : WayAt K H t ns x) (s : Same H H') : WayAt K H' t ns x := by
  obtain ⟨p, is, u, e, z, a⟩ := h
  exact ⟨p, is, u, e, Same.T s z, a⟩
theorem WayAt.sub {K : PySem.W.Frag} {H : Hp} {t u : Rw} {i : Nat} {ns : List Nat} {x : V} (h : WayAt K H u (ns ++ [i]) x) (e : t.subs[i]? = some u) : WayAt K H t ns x := by
  obtain ⟨p, is, u', e', z, a⟩ := h
  exact ⟨p, i :: is, u', e', by rw [List.append_assoc] at z; exact z, by rw [at?, e]; exact a⟩
def spPaths (K : PySem.W.Frag) : Nat → Sp
  | 0 => fun _ _ _ _ => False
  | n + 1 => fun vs H Q _ => ∃ (v : V) (t : Rw) (q : Addr) (ns : List Nat), vs = [v, .ref q] ∧ RwAt K H (n + 1) v t ∧ SqT K H q (VI ns) ∧ ns.length + n ≤ 100 ∧ t.size ≤ 50000 ∧ ∀ l H' xs, Same H H' → H' l = some (.lst xs) → xs.length = t.size → (∀ x ∈ xs, WayAt K H' t ns x) → Q (.ref l) H'
theorem sizes_take : ∀ (ts : List Rw) (i : Nat) (u : Rw), ts[i]? = some u → Rw.sizes (ts.take (i + 1)) = Rw.sizes (ts.take i) + u.size
  | [], i, u, h => by cases h
  | t :: ts, 0, u, h => by cases h; rw [List.take_succ_cons, List.take_zero, List.take_zero, Rw.sizes, Rw.sizes, Rw.sizes]; omega
  | t :: ts, i + 1, u, h => by
    rw [List.take_succ_cons, List.take_succ_cons, Rw.sizes, Rw.sizes, sizes_take ts i u h]
    omega
theorem sizes_take_le (ts : List Rw) (i : Nat) : Rw.sizes (ts.take i) ≤ Rw.sizes ts := by
  have h := Rw.sizes_app (ts.take i) (ts.drop i)
  rw [List.take_append_drop] at h
  omega
theorem All3.get {R : V → Rw → Prop} {xs : List V} {ts : List Rw} (h : All3 R xs ts) {i : Nat} {t : Rw} (ht : ts[i]? = some t) : ∃ x, xs[i]? = some x ∧ R x t := by
  have l : i < xs.length := by rw [h.1]; exact (List.getElem?_eq_some_iff.mp ht).1
  exact ⟨xs[i], List.getElem?_eq_getElem l, h.2 i _ t (List.getElem?_eq_getElem l) ht⟩
theorem cat_way {K : PySem.W.Frag} {H : Hp} {Q : VK} {a b : Addr} {xs ys : List V} (ha : SqT K H a xs) (hb : SqT K H b ys) (hz : xs.length + ys.length ≤ sizeLine) (w : ∀ p H', Same H H' → SqT K H' p (xs ++ ys) → Q (.ref p) H') : rCatA K (.ref a) (.ref b) H Q := by
  refine ⟨a, b, xs, ys, rfl, rfl, ha, hb, hz, fun e => w b H (Same.refl H) (by rw [e]; exact hb), fun _ e => w a H (Same.refl H) (by rw [e, List.append_nil]; exact ha), fun _ _ p np => w p _ (Same.new np) (SqT.of upd_same)⟩
theorem at0 {α : Type} {xs : List α} {i : Nat} {x : α} (h : xs[i]? = some x) : atI xs (0 + (i : Int)) = some x := by rw [show (0 : Int) + (i : Int) = (i : Int) by omega]; exact atI_nat h
/-- replaced at a way: some term, whose size is bounded -/
def spReplace (K : PySem.W.Frag) : Nat → Sp
  | 0 => fun _ _ _ _ => False
  | n + 1 => fun vs H Q _ => ∃ (v : V) (t u : Rw) (q : Addr) (ns : List Nat) (o : V) (ot : Rw) (m : Nat), vs = [v, .ref q, o] ∧ RwAt K H (n + 1) v t ∧ SqT K H q (VI ns) ∧ at? t ns = some u ∧ RwAt K H m o ot ∧ ∀ x H' t', Same H H' → RwAt K H' (n + m) x t' → t'.size ≤ t.size + ot.size → Q x H'
def VD (is : List Nat) : List PyData := is.map fun (i : Nat) => PyData.int ((i : Nat) : Int)
theorem VD_lay : ∀ is : List Nat, PyData.canLayAll0 (VD is) = true
  | [] => by simp [VD, PyData.canLayAll0]
  | i :: is => by
    have := VD_lay is
    unfold VD at this ⊢
    rw [List.map_cons, PyData.canLayAll0, this]
    simp [PyData.canLay0]
theorem VD_depth : ∀ is : List Nat, PyData.depthAll (VD is) = 0
  | [] => by simp [VD, PyData.depthAll]
  | i :: is => by
    have := VD_depth is
    unfold VD at this ⊢
    rw [List.map_cons, PyData.depthAll, this]
    simp [PyData.depth]
theorem VD_shaped (is : List Nat) : SeqAt.shaped (.tuple (VD is)) = true := by
  unfold SeqAt.shaped
  rw [PyData.canLay0, VD_lay, PyData.depth, VD_depth]
  rfl
theorem VD_all {K : PySem.W.Frag} {H : Hp} : ∀ is : List Nat, DpAll K H (VI is) (VD is)
  | [] => .nil
  | i :: is => .cons (.int _) (VD_all is)
theorem at_cons {t u : Rw} {i : Nat} {is : List Nat} (h : at? t (i :: is) = some u) : ∃ t1, t.subs[i]? = some t1 ∧ at? t1 is = some u := by
  rw [at?] at h
  cases e : t.subs[i]? with
  | none => rw [e] at h; cases h
  | some t1 => rw [e] at h; exact ⟨t1, rfl, h⟩
theorem sizes_set : ∀ (ts : List Rw) (i : Nat) (u v : Rw), ts[i]? = some u → Rw.sizes (ts.set i v) + u.size = Rw.sizes ts + v.size
  | [], i, u, v, h => by cases h
  | t :: ts, 0, u, v, h => by cases h; rw [List.set_cons_zero, Rw.sizes, Rw.sizes]; omega
  | t :: ts, i + 1, u, v, h => by
    have := sizes_set ts i u v h
    rw [List.set_cons_succ, Rw.sizes, Rw.sizes]
    omega
theorem All3.set {R : V → Rw → Prop} {xs : List V} {ts : List Rw} (h : All3 R xs ts) (i : Nat) {x : V} {t : Rw} (k : R x t) : All3 R (xs.set i x) (ts.set i t) := by
  refine ⟨by rw [List.length_set, List.length_set]; exact h.1, fun j y u a b => ?_⟩
  rw [List.getElem?_set] at a b
  by_cases e : i = j
  · rw [if_pos e] at a b
    split at a
    · cases a
      split at b
      · cases b; exact k
      · cases b
    · cases a
  · rw [if_neg e] at a b
    exact h.2 j y u a b
/-- what stands at i in the tuple: the subterm itself, or a pair -/
def Slot (K : PySem.W.Frag) (H : Hp) (i : Nat) (val fr : V) : Rk → Prop
  | .mx ws => ∃ tp wv f, val = .ref tp ∧ SqT K H tp [wv, fr] ∧ ws[i]? = some f ∧ FrW K H wv f
  | _ => val = fr
theorem RRest.set {K : PySem.W.Frag} {H : Hp} {k : Rk} {ys xs : List V} {i : Nat} {val fr : V} (h : RRest K H k ys xs) (hi : i < xs.length) (hs : Slot K H i val fr k) : RRest K H k (ys.set i val) (xs.set i fr) := by
  match k, h, hs with
  | .ev ss, ⟨a, _⟩, _ => subst a; exact absurd hi (Nat.not_lt_zero _)
  | .dl none, ⟨x, e1, e2⟩, hs =>
    subst e1 e2
    have : i = 0 := by have : i < 1 := hi; omega
    subst this
    have hs' : val = fr := hs
    subst hs'
    exact ⟨val, rfl, rfl⟩
  | .dl (some f), ⟨x, fv, e1, e2, hf⟩, hs =>
    subst e1 e2
    have : i = 0 := by have : i < 1 := hi; omega
    subst this
    have hs' : val = fr := hs
    subst hs'
    exact ⟨val, fv, rfl, rfl, hf⟩
  | .mx ws, ⟨l1, l2, hm⟩, ⟨tp, wv, f, e, ht, hw, hf⟩ =>
    refine ⟨by rw [List.length_set, List.length_set]; exact l1, by rw [List.length_set]; exact l2, fun j y x g a b c => ?_⟩
    rw [List.getElem?_set] at a b
    by_cases q : i = j
    · subst q
      rw [if_pos rfl] at a b
      rw [if_pos (by omega)] at a b
      rw [hw] at c
      cases a
      cases b
      cases c
      exact ⟨tp, wv, e, ht, hf⟩
    · rw [if_neg q] at a b
      exact hm j y x g a b c
  | .nn k, ⟨n1, n2, n3, e⟩, hs =>
    have hs' : val = fr := hs
    subst e hs'
    exact ⟨n1, n2, n3, rfl⟩
theorem RRest.imp {K : PySem.W.Frag} {H H' : Hp} (sT : ∀ p xs, SqT K H p xs → SqT K H' p xs) {k : Rk} {ys xs : List V} (h : RRest K H k ys xs) : RRest K H' k ys xs := by
  match k, h with
  | .ev ss, h => exact h
  | .dl none, h => exact h
  | .dl (some f), ⟨x, fv, e1, e2, w⟩ => exact ⟨x, fv, e1, e2, w.imp sT⟩
  | .mx ws, ⟨l1, l2, h⟩ =>
    refine ⟨l1, l2, fun i y x f a b c => ?_⟩
    obtain ⟨q, wv, e', h3, h4⟩ := h i y x f a b c
    exact ⟨q, wv, e', sT _ _ h3, h4.imp sT⟩
  | .nn k, h => exact h
theorem RRest.len {K : PySem.W.Frag} {H : Hp} {k : Rk} {ys xs : List V} (h : RRest K H k ys xs) : xs.length ≤ ys.length := by
  match k, h with
  | .ev ss, ⟨a, _⟩ => rw [a]; exact Nat.zero_le _
  | .dl none, ⟨x, e1, e2⟩ => rw [e1, e2]; exact Nat.le_refl _
  | .dl (some f), ⟨x, fv, e1, e2, _⟩ => rw [e1, e2]; exact Nat.le_succ _
  | .mx ws, ⟨l1, _⟩ => rw [l1]; exact Nat.le_refl _
  | .nn k, ⟨_, _, _, e⟩ => rw [e]; exact Nat.le_refl _
theorem ixN_succ {n j : Nat} (h : j < n) : ixN (n + 1) (1 + (j : Int)) = some (j + 1) := by
  unfold ixN
  rw [if_pos (by omega), if_pos (by omega), show (1 + (j : Int)).toNat = j + 1 by omega]
theorem at1 {α : Type} {x y : α} {xs : List α} {i : Nat} (h : xs[i]? = some x) : atI (y :: xs) (1 + (i : Int)) = some x := by rw [show (1 : Int) + (i : Int) = ((i + 1 : Nat) : Int) by omega]; exact atI_nat h
theorem sizes_at : ∀ {ts : List Rw} {i : Nat} {u : Rw}, ts[i]? = some u → u.size ≤ Rw.sizes ts
  | [], i, u, h => by cases h
  | t :: ts, 0, u, h => by cases h; rw [Rw.sizes]; omega
  | t :: ts, i + 1, u, h => by have := sizes_at (ts := ts) h; rw [Rw.sizes]; omega
theorem at_size : ∀ {is : List Nat} {t u : Rw}, at? t is = some u → u.size ≤ t.size
  | [], t, u, h => by rw [at?] at h; cases h; exact Nat.le_refl _
  | i :: is, t, u, h => by
    obtain ⟨t1, h1, h2⟩ := at_cons h
    have := at_size h2
    have := sizes_at h1
    rw [t.size_eq]
    omega
theorem RwAt.low {K : PySem.W.Frag} {H : Hp} : ∀ {d n : Nat} {v : V} {t : Rw}, RwAt K H n v t → isT d t = true → RwAt K H d v t
  | 0, _, _, _, _, h => by cases h
  | d + 1, 0, _, _, h, _ => h.elim
  | d + 1, n + 1, v, .mk k ts, ⟨l, xs, h1, h2⟩, h => by
    have h' : (formK k ts.length && ts.all (isT d)) = true := h
    rw [Bool.and_eq_true] at h'
    exact ⟨l, xs, h1, h2.1, fun i x t a b => RwAt.low (h2.2 i x t a b) (List.all_eq_true.mp h'.2 t (List.mem_of_getElem? b))⟩
section
variable {K : PySem.W.Frag} {H H' : Hp} {p : Addr} {m : Nat} {x : V} {u : Rw}
theorem mkEv {ss : List Str} (l1 : ss.length ≤ 2000) (l2 : ∀ s ∈ ss, s.length ≤ 4000) (z : SqT K H p (.str "event" :: ss.map V.str)) : RwAt K H (m + 1) (.ref p) (.mk (.ev ss) []) := ⟨Nat.zero_le _, [], ⟨rfl, l1, l2, p, rfl, z⟩, All3.nil⟩
theorem mkDl {fv : V} {f : QQ} (z : SqT K H p [.str "delay", x, fv]) (hf : FrW K H fv f) (h : RwAt K H m x u) : RwAt K H (m + 1) (.ref p) (.mk (.dl (some f)) [u]) := ⟨by show 1 ≤ 2000; decide, [x], ⟨p, x, fv, rfl, rfl, z, hf⟩, All3.one h⟩
theorem mkD0 (z : SqT K H p [.str "delay", x]) (h : RwAt K H m x u) : RwAt K H (m + 1) (.ref p) (.mk (.dl none) [u]) := ⟨by show 1 ≤ 2000; decide, [x], ⟨p, x, rfl, rfl, z⟩, All3.one h⟩
theorem mkMx {q1 q2 : Addr} {w1 w2 : V} {f1 f2 : QQ} (z : SqT K H p [.str "mix", .ref q1, .ref q2]) (z1 : SqT K H q1 [w1, x]) (z2 : SqT K H q2 [w2, x]) (h1 : FrW K H w1 f1) (h2 : FrW K H w2 f2) (h : RwAt K H m x u) : RwAt K H (m + 1) (.ref p) (.mk (.mx [f1, f2]) [u, u]) := by
  refine ⟨by show 2 ≤ 2000; decide, [x, x], ⟨p, [.ref q1, .ref q2], rfl, z, rfl, rfl, fun i y x' f a b c => ?_⟩, All3.cons h (All3.one h)⟩
  match i, a, b, c with
  | 0, a, b, c => cases a; cases b; cases c; exact ⟨q1, w1, rfl, z1, h1⟩
  | 1, a, b, c => cases a; cases b; cases c; exact ⟨q2, w2, rfl, z2, h2⟩
theorem mkM0 (z : SqT K H p [.str "mix"]) : RwAt K H (m + 1) (.ref p) (.mk (.mx []) []) := ⟨Nat.zero_le _, [], ⟨p, [], rfl, z, rfl, rfl, fun i y x' f a b c => by cases a⟩, All3.nil⟩
theorem mkNn {k : Str} {xs : List V} {ts : List Rw} (n1 : k ≠ "event") (n2 : k ≠ "delay") (n3 : k ≠ "mix") (l : ts.length ≤ 2000) (z : SqT K H p (.str k :: xs)) (h : All3 (RwAt K H m) xs ts) : RwAt K H (m + 1) (.ref p) (.mk (.nn k) ts) := ⟨l, xs, ⟨n1, n2, n3, p, rfl, z⟩, h⟩
/-- some term, not deeper than m, of at most B parts -/
def Ok (K : PySem.W.Frag) (H : Hp) (m B : Nat) (x : V) : Prop := ∃ t, RwAt K H m x t ∧ t.size ≤ B
theorem Ok.same {B : Nat} (h : Ok K H m B x) (s : Same H H') : Ok K H' m B x := by
  obtain ⟨t, a, b⟩ := h
  exact ⟨t, a.same s, b⟩
theorem Ok.kp {B : Nat} {r : Addr} (R : Rg H r) (k : Kp r H H') (h : Ok K H m B x) : Ok K H' m B x := by
  obtain ⟨t, a, b⟩ := h
  exact ⟨t, a.kp R k, b⟩
theorem Ok.le {B m' B' : Nat} (h : Ok K H m B x) (l : m ≤ m') (l2 : B ≤ B') : Ok K H m' B' x := by
  obtain ⟨t, a, b⟩ := h
  exact ⟨t, a.le l, Nat.le_trans b l2⟩
theorem Ok.snoc {B : Nat} {l : List V} {y : V} (h : ∀ z ∈ l, Ok K H m B z) (s : Same H H') (k : Ok K H' m B y) : ∀ z ∈ l ++ [y], Ok K H' m B z := fun z hz => by
  rcases List.mem_append.mp hz with q | q
  · exact (h z q).same s
  · rw [List.mem_singleton.mp q]; exact k
end
theorem go_if3 {c : TT} {b rest : TS} {D : Ends} {σ : L2.St} {H : Hp} (J : L2.St → Hp → Prop) (main : ∀ σ' H', J σ' H' → rest D σ' H') (step : ∀ D' : Ends, (∀ σ' H', J σ' H' → D'.nx σ' H') → tIfS c b tNext D' σ H) : tSeq (tIfS c b tNext) rest D σ H := step _ main
theorem mkFr {K : PySem.W.Frag} {H : Hp} {p : Addr} {a b : Int} (z : SqT K H p [.int a, .int b]) (ha : a.natAbs < 2 ^ 120) (hb : b.natAbs < 2 ^ 120) : FrW K H (.ref p) (a, b) := ⟨⟨p, rfl, z⟩, ha, hb⟩
theorem sz1 (k : Rk) (u : Rw) : (Rw.mk k [u]).size = 1 + u.size := by rw [Rw.size, Rw.sizes, Rw.sizes]; omega
theorem sz2 (k : Rk) (u v : Rw) : (Rw.mk k [u, v]).size = 1 + u.size + v.size := by rw [Rw.size, Rw.sizes, Rw.sizes, Rw.sizes]; omega
theorem sz0 (k : Rk) : (Rw.mk k []).size = 1 := by rw [Rw.size, Rw.sizes]
theorem Ok.none {K : PySem.W.Frag} {H : Hp} {m B : Nat} : ∀ z ∈ ([] : List V), Ok K H m B z := fun z hz => by cases hz
theorem all_snoc {P P' : V → Prop} {l : List V} {y : V} (h : ∀ z ∈ l, P z) (s : ∀ z, P z → P' z) (k : P' y) : ∀ z ∈ l ++ [y], P' z := fun z hz => by
  rcases List.mem_append.mp hz with q | q
  · exact s z (h z q)
  · rw [List.mem_singleton.mp q]; exact k
def FOk (K : PySem.W.Frag) (H : Hp) (v : V) : Prop := ∃ f, FrW K H v f
theorem FOk.same {K : PySem.W.Frag} {H H' : Hp} (s : Same H H') (v : V) (h : FOk K H v) : FOk K H' v := ⟨h.choose, h.choose_spec.same s⟩
theorem FrW.kp {K : PySem.W.Frag} {H H' : Hp} {r : Addr} {v : V} {f : QQ} (R : Rg H r) (k : Kp r H H') (h : FrW K H v f) : FrW K H' v f := h.imp fun _ _ z => RgT R k z
theorem sizes_rep (u : Rw) : ∀ n, Rw.sizes (List.replicate n u) = n * u.size
  | 0 => by rw [List.replicate_zero, Rw.sizes, Nat.zero_mul]
  | n + 1 => by rw [List.replicate_succ, Rw.sizes, sizes_rep u n, Nat.add_mul]; omega
theorem sqN {K : PySem.W.Frag} {H : Hp} {p : Addr} {xs : List V} (_ : H p = none) : SqT K (upd H p (.tup xs)) p xs := SqT.of upd_same
theorem Eqd.frw {K : PySem.W.Frag} {H : Hp} {n : Nat} {v u : V} {f : QQ} (a : FrW K H v f) (b : FrW K H u f) : Eqd K H (n + 1) v u := by
  obtain ⟨p, rfl, hp⟩ := a.fr
  obtain ⟨q, rfl, hq⟩ := b.fr
  exact Eqd.tup hp hq rfl (by show 2 ≤ 100000; decide) (all2_cons (Eqd.atom rfl) (all2_cons (Eqd.atom rfl) all2_nil))
/-- the same term twice in memory -/
theorem RwAt.eqd {K : PySem.W.Frag} {H : Hp} : ∀ {n : Nat} {v u : V} {t : Rw}, RwAt K H n v t → RwAt K H n u t → Eqd K H (2 * n) v u
  | 0, _, _, _, h, _ => h.elim
  | n + 1, v, u, .mk k ts, ⟨l, xs, h1, h2⟩, ⟨_, ys, k1, k2⟩ => by
    have hl : xs.length = ys.length := by rw [h2.1, k2.1]
    have sub : ∀ (i : Nat) x y, xs[i]? = some x → ys[i]? = some y → Eqd K H (2 * n) x y := fun i x y hx hy => by
      obtain ⟨t, ht, hx'⟩ := h2.at hx
      exact RwAt.eqd hx' (k2.2 i y t hy ht)
    have xl : xs.length ≤ 2000 := by rw [h2.1]; exact l
    show Eqd K H (2 * n + 1 + 1) v u
    match k, h1, k1 with
    | .ev ss, ⟨ex, a1, a2, p, e, z⟩, ⟨_, _, _, q, e', z'⟩ =>
      subst e e'
      refine Eqd.tup z z' rfl (by rw [List.length_cons, List.length_map]; omega) (all2_cons (Eqd.atom rfl) fun i x y hx hy => ?_)
      rw [hx] at hy
      cases hy
      obtain ⟨s, _, rfl⟩ := List.mem_map.mp (List.mem_of_getElem? hx)
      exact Eqd.atom rfl
    | .dl none, ⟨p, x, ex, e, z⟩, ⟨q, y, ey, e', z'⟩ =>
      subst e e' ex ey
      exact Eqd.tup z z' rfl (by show 2 ≤ 100000; decide) (all2_cons (Eqd.atom rfl) (all2_cons (sub 0 x y rfl rfl).up all2_nil))
    | .dl (some f), ⟨p, x, fv, ex, e, z, fw⟩, ⟨q, y, gv, ey, e', z', gw⟩ =>
      subst e e' ex ey
      exact Eqd.tup z z' rfl (by show 3 ≤ 100000; decide) (all2_cons (Eqd.atom rfl) (all2_cons (sub 0 x y rfl rfl).up (all2_cons (Eqd.frw fw gw) all2_nil)))
    | .mx ws, ⟨p, as, e, z, l1, l2, hm⟩, ⟨q, bs, e', z', m1, m2, km⟩ =>
      subst e e'
      refine Eqd.tup z z' (by rw [List.length_cons, List.length_cons]; omega) (by rw [List.length_cons]; omega) (all2_cons (Eqd.atom rfl) fun i a b ha hb => ?_)
      have il : i < as.length := (List.getElem?_eq_some_iff.mp ha).1
      have hx : xs[i]? = some (xs[i]'(by omega)) := List.getElem?_eq_getElem _
      have hy : ys[i]? = some (ys[i]'(by omega)) := List.getElem?_eq_getElem _
      have hw : ws[i]? = some (ws[i]'(by omega)) := List.getElem?_eq_getElem _
      obtain ⟨a', wv, rfl, s1, f1⟩ := hm i a _ _ ha hx hw
      obtain ⟨b', uv, rfl, s2, f2⟩ := km i b _ _ hb hy hw
      have sx := sub i _ _ hx hy
      refine Eqd.tup s1 s2 rfl (by show 2 ≤ 100000; decide) (all2_cons ?_ (all2_cons sx all2_nil))
      cases n with
      | zero =>
        obtain ⟨t, ht, hx'⟩ := h2.at hx
        exact hx'.elim
      | succ n => exact Eqd.frw f1 f2
    | .nn kk, ⟨_, _, _, p, e, z⟩, ⟨_, _, _, q, e', z'⟩ =>
      subst e e'
      exact Eqd.tup z z' (by rw [List.length_cons, List.length_cons, hl]) (by rw [List.length_cons]; omega) (all2_cons (Eqd.atom rfl) fun i x y hx hy => (sub i x y hx hy).up)
mutual
def Rw.flat : Rw → List Str
  | .mk (.ev ss) _ => ss
  | .mk _ ts => Rw.flats ts
def Rw.flats : List Rw → List Str
  | [] => []
  | t :: ts => t.flat ++ Rw.flats ts
end
theorem flat_node {k : Rk} {ts : List Rw} (h : ¬ ∃ ss, k = .ev ss) : (Rw.mk k ts).flat = Rw.flats ts := by
  match k, h with
  | .ev ss, h => exact absurd ⟨ss, rfl⟩ h
  | .dl f, _ => rw [Rw.flat]; intro ss z; cases z
  | .mx ws, _ => rw [Rw.flat]; intro ss z; cases z
  | .nn k, _ => rw [Rw.flat]; intro ss z; cases z
theorem flats_takeR {ts : List Rw} {i : Nat} {u : Rw} (h : ts[i]? = some u) : Rw.flats (ts.take (i + 1)) = Rw.flats (ts.take i) ++ u.flat := by
  have app : ∀ a b : List Rw, Rw.flats (a ++ b) = Rw.flats a ++ Rw.flats b := by
    intro a b
    induction a with
    | nil => rfl
    | cons x a ih => rw [List.cons_append, Rw.flats, Rw.flats, ih, List.append_assoc]
  rw [List.take_add_one, h, app]
  show _ ++ Rw.flats [u] = _
  rw [Rw.flats, Rw.flats, List.append_nil]
/-- every event has one name -/
def EvOk : Nat → Rw → Prop
  | 0, _ => False
  | n + 1, .mk k ts => (∀ ss, k = .ev ss → ∃ s, ss = [s]) ∧ ∀ u ∈ ts, EvOk n u
theorem isT.ev : ∀ {n : Nat} {t : Rw}, isT n t = true → EvOk n t
  | 0, _, h => by cases h
  | n + 1, .mk k ts, h => by
    have h' : (formK k ts.length && ts.all (isT n)) = true := h
    rw [Bool.and_eq_true] at h'
    refine ⟨fun ss e => ?_, fun u hu => isT.ev (List.all_eq_true.mp h'.2 u hu)⟩
    subst e
    have hf : evB ss = true := h'.1
    match ss, hf with
    | [s], _ => exact ⟨s, rfl⟩
def spNamesR (K : PySem.W.Frag) : Nat → Sp
  | 0 => fun _ _ _ _ => False
  | n + 1 => fun vs H Q _ => ∃ (v : V) (t : Rw), vs = [v] ∧ RwAt K H (n + 1) v t ∧ EvOk (n + 1) t ∧ t.flat.length ≤ 1000 ∧ ∀ l H', Same H H' → H l = none → H' l = some (.lst ((ded t.flat).map V.str)) → Q (.ref l) H'
theorem EvOk.up : ∀ {n : Nat} {t : Rw}, EvOk n t → EvOk (n + 1) t
  | 0, _, h => h.elim
  | n + 1, .mk k ts, h => ⟨h.1, fun t ht => (h.2 t ht).up⟩
theorem Rw.flats_app : ∀ a b : List Rw, Rw.flats (a ++ b) = Rw.flats a ++ Rw.flats b
  | [], b => rfl
  | x :: a, b => by rw [List.cons_append, Rw.flats, Rw.flats, Rw.flats_app a b, List.append_assoc]
theorem Rw.sizes_rev : ∀ a : List Rw, Rw.sizes a.reverse = Rw.sizes a
  | [] => rfl
  | x :: a => by
    rw [List.reverse_cons, Rw.sizes_app, Rw.sizes_rev a, Rw.sizes, Rw.sizes, Rw.sizes]
    omega
theorem Rw.size_pos (t : Rw) : 1 ≤ t.size := by rw [t.size_eq]; omega
theorem EvOk.len : ∀ {n : Nat} {t : Rw}, EvOk n t → t.flat.length ≤ t.size
  | 0, _, h => h.elim
  | n + 1, .mk k ts, h => by
    by_cases hev : ∃ ss, k = .ev ss
    · obtain ⟨ss, rfl⟩ := hev
      obtain ⟨s, rfl⟩ := h.1 _ rfl
      rw [Rw.flat, Rw.size]
      show 1 ≤ _
      omega
    · rw [flat_node hev, Rw.size]
      have key : ∀ l : List Rw, (∀ u ∈ l, EvOk n u) → (Rw.flats l).length ≤ Rw.sizes l := by
        intro l
        induction l with
        | nil => intro _; exact Nat.zero_le _
        | cons a l ih =>
          intro hl
          rw [Rw.flats, Rw.sizes, List.length_append]
          have h1 := (hl a List.mem_cons_self).len
          have h2 := ih fun u hu => hl u (List.mem_cons_of_mem _ hu)
          omega
      have := key ts h.2
      omega
theorem All3.uncons {R : V → Rw → Prop} {x : V} {t : Rw} {xs : List V} {ts : List Rw} (h : All3 R (x :: xs) (t :: ts)) : R x t ∧ All3 R xs ts :=
  ⟨h.2 0 x t rfl rfl, by have := h.1; simpa using this, fun i y u a b => h.2 (i + 1) y u a b⟩
theorem All3.rev {R : V → Rw → Prop} : ∀ {xs : List V} {ts : List Rw}, All3 R xs ts → All3 R xs.reverse ts.reverse
  | [], [], _ => All3.nil
  | [], _ :: _, a => by have := a.1; cases this
  | _ :: _, [], a => by have := a.1; cases this
  | x :: xs, t :: ts, a => by
    rw [List.reverse_cons, List.reverse_cons]
    exact (All3.rev a.uncons.2).app (All3.one a.uncons.1)
theorem All3.last {R : V → Rw → Prop} {xs : List V} {ts : List Rw} (h : All3 R xs ts) (ne : xs ≠ []) : ∃ y us u, ts = us ++ [u] ∧ xs[xs.length - 1]? = some y ∧ All3 R xs.dropLast us ∧ R y u := by
  have e := List.dropLast_concat_getLast ne
  have nt : ts ≠ [] := fun z => by rw [z] at h; exact ne (List.length_eq_zero_iff.mp h.1)
  have et := List.dropLast_concat_getLast nt
  refine ⟨xs.getLast ne, ts.dropLast, ts.getLast nt, et.symm, ?_, ⟨by rw [List.length_dropLast, List.length_dropLast, h.1], fun i x t a b => ?_⟩, ?_⟩
  · rw [← List.getLast?_eq_getElem?, List.getLast?_eq_some_getLast ne]
  · rw [List.getElem?_dropLast] at a b
    split at a
    · split at b
      · exact h.2 i x t a b
      · cases b
    · cases a
  · refine h.2 (xs.length - 1) _ _ ?_ ?_
    · rw [← List.getLast?_eq_getElem?, List.getLast?_eq_some_getLast ne]
    · rw [h.1, ← List.getLast?_eq_getElem?, List.getLast?_eq_some_getLast nt]
/-! ### rows -/
def AllG {α : Type} (R : V → α → Prop) (xs : List V) (ts : List α) : Prop := xs.length = ts.length ∧ ∀ (i : Nat) x t, xs[i]? = some x → ts[i]? = some t → R x t
theorem AllG.mono {α : Type} {R S : V → α → Prop} {xs : List V} {ts : List α} (h : AllG R xs ts) (k : ∀ x t, R x t → S x t) : AllG S xs ts := ⟨h.1, fun i x t a b => k x t (h.2 i x t a b)⟩
theorem AllG.nil {α : Type} {R : V → α → Prop} : AllG R [] [] := ⟨rfl, fun i x t h => by cases h⟩
theorem AllG.cons {α : Type} {R : V → α → Prop} {x : V} {t : α} {xs : List V} {ts : List α} (k : R x t) (h : AllG R xs ts) : AllG R (x :: xs) (t :: ts) :=
  ⟨by rw [List.length_cons, List.length_cons, h.1], fun i y u a b => by
    cases i with
    | zero => cases a; cases b; exact k
    | succ i => exact h.2 i y u a b⟩
theorem AllG.one {α : Type} {R : V → α → Prop} {x : V} {t : α} (k : R x t) : AllG R [x] [t] := AllG.cons k AllG.nil
theorem AllG.at {α : Type} {R : V → α → Prop} {xs : List V} {ts : List α} (h : AllG R xs ts) {i : Nat} {x : V} (hx : xs[i]? = some x) : ∃ t, ts[i]? = some t ∧ R x t := by
  have l : i < ts.length := by rw [← h.1]; exact (List.getElem?_eq_some_iff.mp hx).1
  exact ⟨ts[i], List.getElem?_eq_getElem l, h.2 i x _ hx (List.getElem?_eq_getElem l)⟩
theorem AllG.app {α : Type} {R : V → α → Prop} {xs ys : List V} {ts us : List α} (a : AllG R xs ts) (b : AllG R ys us) : AllG R (xs ++ ys) (ts ++ us) := by
  refine ⟨by rw [List.length_append, List.length_append, a.1, b.1], fun i x t h1 h2 => ?_⟩
  by_cases hi : i < xs.length
  · rw [List.getElem?_append_left hi] at h1
    rw [List.getElem?_append_left (by rw [← a.1]; exact hi)] at h2
    exact a.2 i x t h1 h2
  · rw [List.getElem?_append_right (by omega)] at h1
    rw [List.getElem?_append_right (by rw [← a.1]; omega), ← a.1] at h2
    exact b.2 _ x t h1 h2
theorem AllG.take {α : Type} {R : V → α → Prop} {xs : List V} {ts : List α} (h : AllG R xs ts) (n : Nat) : AllG R (xs.take n) (ts.take n) := by
  refine ⟨by rw [List.length_take, List.length_take, h.1], fun i x t h1 h2 => ?_⟩
  rw [List.getElem?_take] at h1 h2
  split at h1
  · rename_i hi
    rw [if_pos hi] at h2
    exact h.2 i x t h1 h2
  · cases h1
theorem AllG.drop {α : Type} {R : V → α → Prop} {xs : List V} {ts : List α} (h : AllG R xs ts) (n : Nat) : AllG R (xs.drop n) (ts.drop n) := by
  refine ⟨by rw [List.length_drop, List.length_drop, h.1], fun i x t h1 h2 => ?_⟩
  rw [List.getElem?_drop] at h1 h2
  exact h.2 _ x t h1 h2
abbrev Row := Str × Rw
def RowAt (K : PySem.W.Frag) (H : Hp) (n : Nat) (v : V) (r : Row) : Prop := ∃ p x, v = .ref p ∧ SqT K H p [.str r.1, x] ∧ RwAt K H n x r.2
theorem RowAt.same {K : PySem.W.Frag} {H H' : Hp} (s : Same H H') {n : Nat} {v : V} {r : Row} (h : RowAt K H n v r) : RowAt K H' n v r := by
  obtain ⟨p, x, e, hp, hx⟩ := h
  exact ⟨p, x, e, Same.T s hp, hx.same s⟩
theorem RowAt.put {K : PySem.W.Frag} {H : Hp} {D : Addr} {l l' : List V} (hD : H D = some (.lst l)) {n : Nat} {v : V} {r : Row} (h : RowAt K H n v r) : RowAt K (upd H D (.lst l')) n v r := by
  obtain ⟨p, x, e, hp, hx⟩ := h
  exact ⟨p, x, e, sqPut hp hD, hx.put hD⟩
theorem RowAt.kp {K : PySem.W.Frag} {H H' : Hp} {r : Addr} (R : Rg H r) (k : Kp r H H') {n : Nat} {v : V} {w : Row} (h : RowAt K H n v w) : RowAt K H' n v w := by
  obtain ⟨p, x, e, hp, hx⟩ := h
  exact ⟨p, x, e, RgT R k hp, hx.kp R k⟩
def okNm (u : Str) : Prop := (∀ c ∈ u.cps.toList, c < 16 ^ 8) ∧ u.length ≤ 1000
theorem nm_ok {u : Str} (h : nameB u = true) : okNm u := by
  unfold nameB at h
  simp only [Bool.and_eq_true, decide_eq_true_eq] at h
  refine ⟨fun c hc => ?_, by omega⟩
  have z := List.all_eq_true.mp h.2.1 c hc
  unfold lowB at z
  simp only [Bool.and_eq_true, decide_eq_true_eq] at z
  have : (16 : Nat) ^ 8 = 4294967296 := by decide
  omega
theorem dropAt {α : Type} {l : List α} {i : Nat} {x : α} (h : l[i]? = some x) : l.drop i = x :: l.drop (i + 1) := by
  have hi := (List.getElem?_eq_some_iff.mp h).1
  rw [List.drop_eq_getElem_cons hi]
  rw [List.getElem?_eq_getElem hi] at h
  rw [Option.some.inj h]
/-- names of the term that are not among ns -/
def unk (ns : List Str) (t : Rw) : List Str := (ded t.flat).filter fun s => !decide (s ∈ ns)
/-- the first wrong name: true for an invalid one, false for one that was there -/
def nmErr : List Str → List Str → Option (Bool × Str)
  | _, [] => none
  | seen, s :: r => if nameB s = false then some (true, s) else if s ∈ seen then some (false, s) else nmErr (seen ++ [s]) r
theorem EvOk.le {n m : Nat} (l : n ≤ m) {t : Rw} (h : EvOk n t) : EvOk m t := by
  induction l with
  | refl => exact h
  | step _ ih => exact ih.up
theorem isT.nm : ∀ {n : Nat} {t : Rw}, isT n t = true → ∀ s ∈ t.flat, nameB s = true
  | 0, _, h => by cases h
  | n + 1, .mk k ts, h => by
    have h' : (formK k ts.length && ts.all (isT n)) = true := h
    rw [Bool.and_eq_true] at h'
    by_cases hev : ∃ ss, k = .ev ss
    · obtain ⟨ss, rfl⟩ := hev
      have hf : evB ss = true := h'.1
      match ss, hf with
      | [s], hf =>
        intro z hz
        rw [Rw.flat] at hz
        rw [List.mem_singleton.mp hz]
        exact hf
    · rw [flat_node hev]
      have key : ∀ l : List Rw, (∀ u ∈ l, isT n u = true) → ∀ s ∈ Rw.flats l, nameB s = true := by
        intro l
        induction l with
        | nil => intro _ s hs; cases hs
        | cons a l ih =>
          intro hl s hs
          rw [Rw.flats] at hs
          rcases List.mem_append.mp hs with z | z
          · exact isT.nm (hl a List.mem_cons_self) s z
          · exact ih (fun u hu => hl u (List.mem_cons_of_mem _ hu)) s z
      exact key ts (List.all_eq_true.mp h'.2)
theorem unk_in {ns : List Str} {t : Rw} {u : Str} {us : List Str} (h : unk ns t = u :: us) : u ∈ t.flat := by
  have : u ∈ unk ns t := by rw [h]; exact List.mem_cons_self
  exact ded_mem.mp (List.mem_filter.mp this).1
def unkE : List Str → Option (Bool × Str)
  | u :: _ => some (false, u)
  | [] => none
/-- the first wrong term: an invalid one's row, or an unknown name -/
def tmErr (rs : List Row) : Option (Bool × Str) :=
  match rs.filter fun r => !(isT 10 r.2 && decide (r.2.size ≤ 40)) with
  | r :: _ => some (true, r.1)
  | [] => unkE (rs.flatMap fun r => unk (rs.map Prod.fst) r.2)
/-- what is wrong with a list of rows -/
inductive RE where
  | cnt (n : Nat) | nam (s : Str) | dup (s : Str) | trm (s : Str) | unk (s : Str)
def RE.tag : RE → Str
  | .cnt _ => "InvalidCount"
  | .nam _ => "InvalidName"
  | .dup _ => "DuplicateName"
  | .trm _ => "InvalidTerm"
  | .unk _ => "UnknownEvent"
def RE.fld : RE → Str
  | .cnt _ => "quantity"
  | _ => "name"
def RE.val : RE → V
  | .cnt n => .int (n : Nat)
  | .nam s => .str s
  | .dup s => .str s
  | .trm s => .str s
  | .unk s => .str s
def bodyErr (rs : List Row) : Option RE :=
  match nmErr [] (rs.map Prod.fst) with
  | some (true, s) => some (.nam s)
  | some (false, s) => some (.dup s)
  | none => match tmErr rs with
    | some (true, s) => some (.trm s)
    | some (false, s) => some (.unk s)
    | none => none
def sysErr (rs : List Row) : Option RE := if 1 ≤ rs.length ∧ rs.length ≤ 6 then bodyErr rs else some (.cnt rs.length)
theorem RowAt.imp {K : PySem.W.Frag} {H H' : Hp} (sT : ∀ p xs, SqT K H p xs → SqT K H' p xs) {n : Nat} {v : V} {r : Row} (h : RowAt K H n v r) : RowAt K H' n v r := by
  obtain ⟨p, x, e, hp, hx⟩ := h
  exact ⟨p, x, e, sT _ _ hp, hx.imp sT⟩
theorem sqIns {K : PySem.W.Frag} {H : Hp} {D p C dx : Addr} {fs : List (Str × V)} {o' : HO} {xs : List V} (h : SqT K H p xs) (hD : H D = some (.ins C dx fs)) : SqT K (upd H D o') p xs := by
  rcases h with (z | ⟨o, z⟩) | z
  · exact .inl (.inl (by rw [upd_ne (ne_of z hD (fun y => by cases y))]; exact z))
  · exact .inl (.inr ⟨o, by rw [upd_ne (ne_of z hD (fun y => by cases y))]; exact z⟩)
  · exact .inr z
theorem TmAt.rawV {K : PySem.W.Frag} {H : Hp} : ∀ {n : Nat} {v : V} {t : Tm}, TmAt K H n v t → VOk n t → (∀ s ∈ t.flat, s.length ≤ 4000) → RwAt K H n v t.raw
  | 0, _, _, h, _, _ => h.elim
  | n + 1, v, .ev s, h, _, hs => by
    obtain ⟨p, e, z⟩ := h
    rw [Tm.raw]
    refine ⟨Nat.zero_le _, [], ⟨rfl, by show 1 ≤ 2000; decide, fun x hx => ?_, p, e, z⟩, All3.nil⟩
    rw [List.mem_singleton.mp hx]; exact hs s (by rw [Tm.flat]; exact List.mem_singleton.mpr rfl)
  | n + 1, v, .nd k ts, h, g, hs => by
    obtain ⟨xs, h1, h2⟩ := h
    have h3 := g.1.1.2
    rw [Tm.raw, raws_map]
    have fw : ∀ {v f}, FrB K H v f.1 f.2 40 → FrW K H v f := fun z => ⟨z.fr, Nat.lt_of_lt_of_le z.nB (Nat.pow_le_pow_right (by decide) (by decide)), Nat.lt_of_lt_of_le z.dB (Nat.pow_le_pow_right (by decide) (by decide))⟩
    refine ⟨by rw [List.length_map]; omega, xs, ?_, ?_⟩
    · cases k with
      | delay f => obtain ⟨p, x, fv, e1, e2, z, w⟩ := h1; exact ⟨p, x, fv, e1, e2, z, fw w⟩
      | max => obtain ⟨p, e, z⟩ := h1; exact ⟨by decide +kernel, by decide +kernel, by decide +kernel, p, e, z⟩
      | min => obtain ⟨p, e, z⟩ := h1; exact ⟨by decide +kernel, by decide +kernel, by decide +kernel, p, e, z⟩
      | median => obtain ⟨p, e, z⟩ := h1; exact ⟨by decide +kernel, by decide +kernel, by decide +kernel, p, e, z⟩
      | mix ws =>
        obtain ⟨p, ys, e, z, l1, l2, hm⟩ := h1
        refine ⟨p, ys, e, z, l1, l2, fun i y x f a b c => ?_⟩
        obtain ⟨q, wv, e', h3, h4⟩ := hm i y x f a b c
        exact ⟨q, wv, e', h3, fw h4⟩
    · refine ⟨by rw [List.length_map]; exact h2.1, fun i x t a b => ?_⟩
      rw [List.getElem?_map] at b
      cases e : ts[i]? with
      | none => rw [e] at b; cases b
      | some u =>
        rw [e] at b
        cases b
        refine TmAt.rawV (h2.2 i x u a e) (g.2 u (List.mem_of_getElem? e)) fun s hs' => hs s ?_
        rw [Tm.flat]
        have fm : ∀ us : List Tm, u ∈ us → s ∈ Tm.flats us := by
          intro us
          induction us with
          | nil => intro z; cases z
          | cons y us ih =>
            intro z
            rw [Tm.flats]
            rcases List.mem_cons.mp z with q | q
            · rw [← q]; exact List.mem_append_left _ hs'
            · exact List.mem_append_right _ (ih q)
        exact fm ts (List.mem_of_getElem? e)
theorem notInK {X : Cx} {K : PySem.W.Frag} (hK : X.K = K) : OpR X (compareOp .NotIn) (rIn K true) := hK ▸ op_notIn_seq
theorem tmErr_bad {rs : List Row} {r : Row} {l : List Row} (h : (rs.filter fun r => !(isT 10 r.2 && decide (r.2.size ≤ 40))) = r :: l) : tmErr rs = some (true, r.1) := by unfold tmErr; rw [h]
theorem tmErr_unk {rs : List Row} (h : (rs.filter fun r => !(isT 10 r.2 && decide (r.2.size ≤ 40))) = []) : tmErr rs = unkE (rs.flatMap fun r => unk (rs.map Prod.fst) r.2) := by unfold tmErr; rw [h]
theorem cutTo (xs : List V) (q : Nat) (h : q ≤ xs.length) : cutV xs none (some (q : Int)) = xs.take q := by
  unfold cutV
  rw [HT.sIx_none, show HT.sIx xs.length xs.length (some (q : Int)) = min q xs.length from HT.sIx_nat xs.length xs.length q, List.drop_zero, show min q xs.length - 0 = q by omega]
theorem cutFrom (xs : List V) (q : Nat) (h : q ≤ xs.length) : cutV xs (some (q : Int)) none = xs.drop q := by
  unfold cutV
  rw [HT.sIx_none, show HT.sIx xs.length 0 (some (q : Int)) = min q xs.length from HT.sIx_nat xs.length 0 q, show min q xs.length = q by omega, List.take_of_length_le (by rw [List.length_drop]; omega)]
/-! ### terms as the law draws them -/
def KdR (ss : List Str) : Rk → Nat → Prop
  | .ev l, m => m = 0 ∧ ∃ s ∈ ss, l = [s]
  | .dl none, _ => False
  | .dl (some f), m => m = 1 ∧ DlS f
  | .mx ws, m => (1 ≤ m ∧ m ≤ 6) ∧ ws.length = m ∧ ShW ws
  | .nn k, m => ((k = "max" ∨ k = "min") ∧ 1 ≤ m ∧ m ≤ 6) ∨ (k = "median" ∧ m = 3)
def WR (ss : List Str) : Nat → Rw → Prop
  | 0, _ => False
  | n + 1, .mk k ts => KdR ss k ts.length ∧ ∀ u ∈ ts, WR ss n u
theorem WR.up {ss : List Str} : ∀ {n : Nat} {t : Rw}, WR ss n t → WR ss (n + 1) t
  | 0, _, h => h.elim
  | n + 1, .mk k ts, h => ⟨h.1, fun u hu => (h.2 u hu).up⟩
theorem WR.le {ss : List Str} {n m : Nat} (l : n ≤ m) {t : Rw} (h : WR ss n t) : WR ss m t := by
  induction l with
  | refl => exact h
  | step _ ih => exact ih.up
theorem WR.sub {ss : List Str} {n : Nat} {t u : Rw} (h : WR ss n t) (hu : u ∈ t.subs) : WR ss n u := by
  match n, t, h with
  | n + 1, .mk k ts, h => exact (h.2 u hu).up
theorem WT.wr {ss : List Str} : ∀ {n : Nat} {t : Tm}, WT ss n t → WR ss n t.raw
  | 0, _, h => h.elim
  | n + 1, .ev s, h => by rw [Tm.raw]; exact ⟨⟨rfl, s, h, rfl⟩, fun u hu => by cases hu⟩
  | n + 1, .nd k ts, h => by
    rw [Tm.raw, raws_map]
    refine ⟨?_, fun u hu => ?_⟩
    · rw [List.length_map]
      cases k with
      | delay f => exact h.1
      | max => exact .inl ⟨.inl rfl, h.1⟩
      | min => exact .inl ⟨.inr rfl, h.1⟩
      | median => exact .inr ⟨rfl, h.1⟩
      | mix ws => exact h.1
    · obtain ⟨t, ht, rfl⟩ := List.mem_map.mp hu
      exact (h.2 t ht).wr
theorem low_fracB {f : QQ} (h : Low f) (h1 : f.1.natAbs ≤ 999999999999) (h2 : f.2 ≤ 999999999999) : fracB f = true := by
  unfold fracB
  have h0 := h.1
  rw [show red f.1 f.2 = f by rw [red_R (by omega)]; exact ofR_toR h]
  simp only [Bool.and_eq_true, decide_eq_true_eq]
  exact ⟨⟨h1, by omega, h2⟩, trivial⟩
theorem DlS.frac {f : QQ} (h : DlS f) : fracB f = true := low_fracB ⟨h.2.1, h.2.2.2⟩ (by have := h.1; omega) (by have := h.2.2.1; omega)
theorem fold_radd : ∀ (qs : List Rat) (x : Rat), (qs.map ofR).foldl radd (ofR x) = ofR (qs.foldl (· + ·) x)
  | [], _ => rfl
  | q :: qs, x => by rw [List.map_cons, List.foldl_cons, List.foldl_cons, radd_R, fold_radd qs (x + q)]
theorem fold_sumR : ∀ (qs : List Rat) (x : Rat), qs.foldl (· + ·) x = x + qs.sum
  | [], x => by rw [List.foldl_nil, List.sum_nil]; grind
  | q :: qs, x => by rw [List.foldl_cons, fold_sumR qs, List.sum_cons]; grind
theorem isum_le : ∀ {is : List Int}, (∀ i ∈ is, 1 ≤ i ∧ i ≤ 4) → is.sum ≤ 4 * (is.length : Int)
  | [], _ => by simp
  | i :: is, h => by
    have h1 := h i List.mem_cons_self
    have h2 := isum_le (is := is) fun j hj => h j (List.mem_cons_of_mem _ hj)
    rw [List.sum_cons, List.length_cons]
    omega
theorem ShW.low {ws : List QQ} (h : ShW ws) (n0 : ws ≠ []) : ∀ w ∈ ws, Low w ∧ 0 < w.1 ∧ w.1.natAbs < 32 ∧ w.2 < 32 := by
  obtain ⟨is, hi, hl, rfl⟩ := h
  have ne : is ≠ [] := fun z => n0 (by rw [z]; rfl)
  have S0 := ints_pos hi ne
  have S1 := isum_le hi
  intro w hw
  obtain ⟨i, hm, rfl⟩ := List.mem_map.mp hw
  have i1 := hi i hm
  have lw : Low (red i is.sum) := low_red (by omega)
  have bt := Bt.red (n := i) (d := is.sum) (B := 5) (by omega) (by show i.natAbs < 32; omega) (by show is.sum.natAbs < 32; omega)
  unfold Bt at bt
  rw [← red_R (by omega)] at bt
  have e := red_eq (n := i) (d := is.sum) (by omega)
  have b1 : (red i is.sum).1.natAbs < 32 := by
    have := bt.1
    exact this
  have b2 : (red i is.sum).2.natAbs < 32 := by
    have := bt.2
    exact this
  refine ⟨lw, ?_, b1, by have := lw.1; omega⟩
  have p1 : 0 < i * (red i is.sum).2 := Int.mul_pos (by omega) lw.1
  rw [← e] at p1
  exact Int.pos_of_mul_pos_left p1 (by omega)
theorem ShW.form {ws : List QQ} (h : ShW ws) (n0 : ws ≠ []) : ((ws.all fun w => fracB w && decide (0 < w.1)) && decide (ws.foldl radd (0, 1) = (1, 1))) = true := by
  have hl := h.low n0
  rw [Bool.and_eq_true]
  refine ⟨List.all_eq_true.mpr fun w hw => ?_, decide_eq_true ?_⟩
  · obtain ⟨a, b, c, d⟩ := hl w hw
    rw [Bool.and_eq_true]
    exact ⟨low_fracB a (by omega) (by omega), decide_eq_true b⟩
  · have e : ws = (ws.map toR).map ofR := by
      rw [List.map_map]
      have : ws.map (ofR ∘ toR) = ws.map id := List.map_congr_left fun w hw => ofR_toR (hl w hw).1
      rw [this, List.map_id]
    rw [e, show ((0, 1) : QQ) = ofR 0 from rfl, fold_radd, fold_sumR, (h.nice n0).2]
    decide +kernel
theorem WR.valid {ss : List Str} (nm : ∀ s ∈ ss, nameB s = true) : ∀ {n : Nat} {t : Rw}, WR ss n t → isT n t = true
  | 0, _, h => h.elim
  | n + 1, .mk k ts, h => by
    show (formK k ts.length && ts.all (isT n)) = true
    rw [Bool.and_eq_true]
    refine ⟨?_, List.all_eq_true.mpr fun u hu => WR.valid nm (h.2 u hu)⟩
    have hk := h.1
    match k, hk with
    | .ev l, ⟨_, s, hs, e⟩ => subst e; exact nm s hs
    | .dl (some f), ⟨_, hd⟩ => exact hd.frac
    | .mx ws, ⟨⟨m1, m6⟩, wl, sw⟩ =>
      show ((decide (1 ≤ ts.length) && decide (ts.length ≤ 6)) && _) = true
      rw [Bool.and_eq_true, Bool.and_eq_true]
      exact ⟨⟨decide_eq_true m1, decide_eq_true m6⟩, sw.form fun z => by rw [z] at wl; rw [← wl] at m1; exact absurd m1 (by decide)⟩
    | .nn k, .inl ⟨e, m1, m6⟩ =>
      have : (decide (1 ≤ ts.length) && decide (ts.length ≤ 6)) = true := by rw [Bool.and_eq_true]; exact ⟨decide_eq_true m1, decide_eq_true m6⟩
      show (if k = "median" then decide (ts.length = 3) else (decide (k = "max") || decide (k = "min")) && (decide (1 ≤ ts.length) && decide (ts.length ≤ 6))) = true
      rw [this]
      rcases e with rfl | rfl
      · rw [if_neg (by decide +kernel)]; decide +kernel
      · rw [if_neg (by decide +kernel)]; decide +kernel
    | .nn k, .inr ⟨e, m3⟩ =>
      subst e
      show (if ("median" : Str) = "median" then decide (ts.length = 3) else (decide (("median" : Str) = "max") || decide (("median" : Str) = "min")) && (decide (1 ≤ ts.length) && decide (ts.length ≤ 6))) = true
      rw [if_pos rfl]; exact decide_eq_true m3
theorem WR.flat {ss : List Str} : ∀ {n : Nat} {t : Rw}, WR ss n t → ∀ s ∈ t.flat, s ∈ ss
  | 0, _, h => h.elim
  | n + 1, .mk k ts, h => by
    by_cases hev : ∃ l, k = .ev l
    · obtain ⟨l, rfl⟩ := hev
      obtain ⟨_, s, hs, rfl⟩ := h.1
      intro x hx
      rw [Rw.flat] at hx
      rw [List.mem_singleton.mp hx]; exact hs
    · rw [flat_node hev]
      have key : ∀ l : List Rw, (∀ u ∈ l, WR ss n u) → ∀ s ∈ Rw.flats l, s ∈ ss := by
        intro l
        induction l with
        | nil => intro _ s hs; cases hs
        | cons a l ih =>
          intro hl s hs
          rw [Rw.flats] at hs
          rcases List.mem_append.mp hs with z | z
          · exact (hl a List.mem_cons_self).flat s z
          · exact ih (fun u hu => hl u (List.mem_cons_of_mem _ hu)) s z
      exact key ts h.2
/-- rows as the law draws them -/
structure Drw (rs : List Row) : Prop where
  nd : (rs.map Prod.fst).Nodup
  nm : ∀ z ∈ rs, nameB z.1 = true
  wr : ∀ z ∈ rs, WR (rs.map Prod.fst) 4 z.2
  sz : ∀ z ∈ rs, z.2.size ≤ 40
theorem nmErr_none : ∀ (l seen : List Str), (∀ s ∈ l, nameB s = true) → (seen ++ l).Nodup → nmErr seen l = none
  | [], _, _, _ => rfl
  | s :: l, seen, h, nd => by
    have n1 : s ∉ seen := fun z => (List.nodup_append.mp nd).2.2 s z s List.mem_cons_self rfl
    rw [nmErr, if_neg (by rw [h s List.mem_cons_self]; decide), if_neg n1]
    exact nmErr_none l (seen ++ [s]) (fun x hx => h x (List.mem_cons_of_mem _ hx)) (by rw [List.append_assoc]; exact nd)
/-- a valid list of rows -/
structure Vld (rs : List Row) : Prop where
  nd : (rs.map Prod.fst).Nodup
  nm : ∀ z ∈ rs, nameB z.1 = true
  it : ∀ z ∈ rs, isT 10 z.2 = true
  sz : ∀ z ∈ rs, z.2.size ≤ 40
  fl : ∀ z ∈ rs, ∀ s ∈ z.2.flat, s ∈ rs.map Prod.fst
theorem isT_up1 : ∀ {n : Nat} {t : Rw}, isT n t = true → isT (n + 1) t = true
  | 0, _, h => by cases h
  | n + 1, .mk k ts, h => by
    have h' : (formK k ts.length && ts.all (isT n)) = true := h
    rw [Bool.and_eq_true] at h'
    show (formK k ts.length && ts.all (isT (n + 1))) = true
    rw [Bool.and_eq_true]
    exact ⟨h'.1, List.all_eq_true.mpr fun u hu => isT_up1 (List.all_eq_true.mp h'.2 u hu)⟩
theorem isT_le {n m : Nat} (l : n ≤ m) {t : Rw} (h : isT n t = true) : isT m t = true := by
  induction l with
  | refl => exact h
  | step _ ih => exact isT_up1 ih
theorem Drw.vld {rs : List Row} (h : Drw rs) : Vld rs := by
  have nm : ∀ s ∈ rs.map Prod.fst, nameB s = true := fun s hs => by
    obtain ⟨z, hz, rfl⟩ := List.mem_map.mp hs
    exact h.nm z hz
  exact ⟨h.nd, h.nm, fun z hz => isT_le (by decide) ((h.wr z hz).valid nm), h.sz, fun z hz => (h.wr z hz).flat⟩
theorem Vld.err {rs : List Row} (h : Vld rs) (l1 : 1 ≤ rs.length) (l6 : rs.length ≤ 6) : sysErr rs = none := by
  have e1 : nmErr [] (rs.map Prod.fst) = none := nmErr_none _ [] (fun s hs => by
    obtain ⟨z, hz, rfl⟩ := List.mem_map.mp hs
    exact h.nm z hz) (by simpa using h.nd)
  have e2 : (rs.filter fun r => !(isT 10 r.2 && decide (r.2.size ≤ 40))) = [] := by
    rw [List.filter_eq_nil_iff]
    intro z hz
    rw [h.it z hz, decide_eq_true (h.sz z hz)]
    decide
  have e3 : (rs.flatMap fun r => unk (rs.map Prod.fst) r.2) = [] := by
    rw [List.flatMap_eq_nil_iff]
    intro z hz
    unfold unk
    rw [List.filter_eq_nil_iff]
    intro s hs
    rw [decide_eq_true (h.fl z hz s (ded_mem.mp hs))]
    decide
  unfold sysErr
  rw [if_pos ⟨l1, l6⟩]
  unfold bodyErr
  rw [e1, tmErr_unk e2, e3]
  rfl
/-! ### systems in memory -/
/-- a system at x: its rows -/
def SysAt (K : PySem.W.Frag) (H : Hp) (C x : Addr) (n : Nat) (rs : List Row) : Prop := ∃ dx pl ys, H x = some (.ins C dx [("pairs", .ref pl)]) ∧ H pl = some (.lst ys) ∧ AllG (RowAt K H n) ys rs
theorem SysAt.same {K : PySem.W.Frag} {H H' : Hp} {C x : Addr} {n : Nat} {rs : List Row} (h : SysAt K H C x n rs) (s : Same H H') : SysAt K H' C x n rs := by
  obtain ⟨dx, pl, ys, h1, h2, h3⟩ := h
  exact ⟨dx, pl, ys, s _ _ h1, s _ _ h2, h3.mono fun _ _ z => z.same s⟩
theorem rows_ne {K : PySem.W.Frag} {H : Hp} {n : Nat} {r pl : Addr} {ys : List V} {rs : List Row} (R : Rg H r) (h : H pl = some (.lst ys)) (hA : AllG (RowAt K H n) ys rs) : pl ≠ r := by
  rintro rfl
  obtain ⟨c, ns, i, x, k, R⟩ := R
  have e := R.hr
  rw [h] at e
  cases e
  obtain ⟨_, _, p, x', z, _⟩ := hA.at (i := 1) (x := .int i) rfl
  cases z
theorem ins_ne {H : Hp} {r x C dx : Addr} {fs : List (Str × V)} (R : Rg H r) (h : H x = some (.ins C dx fs)) : x ≠ r := by
  obtain ⟨c, ns, i, y, k, R⟩ := R
  exact ne_of h R.hr fun z => by cases z
theorem SysAt.kp {K : PySem.W.Frag} {H H' : Hp} {C x r : Addr} {n : Nat} {rs : List Row} (h : SysAt K H C x n rs) (R : Rg H r) (k : Kp r H H') : SysAt K H' C x n rs := by
  obtain ⟨dx, pl, ys, h1, h2, h3⟩ := h
  exact ⟨dx, pl, ys, k.1 _ _ (ins_ne R h1) h1, k.1 _ _ (rows_ne R h2 h3) h2, h3.mono fun _ _ z => z.kp R k⟩
def rowT (s : Str) : List Row → Option Rw
  | [] => none
  | r :: rs => if r.1 = s then some r.2 else rowT s rs
theorem rowT_mem {s : Str} {t : Rw} : ∀ {rs : List Row}, rowT s rs = some t → (s, t) ∈ rs
  | [], h => by cases h
  | r :: rs, h => by
    rw [rowT] at h
    split at h
    · rename_i e
      cases h
      rw [← e]
      exact List.mem_cons_self
    · exact List.mem_cons_of_mem _ (rowT_mem h)
theorem rowT_none {s : Str} : ∀ {rs : List Row}, s ∉ rs.map Prod.fst → rowT s rs = none
  | [], _ => rfl
  | r :: rs, h => by
    rw [rowT, if_neg fun e => h (by rw [← e]; exact List.mem_cons_self)]
    exact rowT_none fun z => h (List.mem_cons_of_mem _ z)
theorem rowT_at {s : Str} {t : Rw} : ∀ {rs : List Row}, (rs.map Prod.fst).Nodup → (s, t) ∈ rs → rowT s rs = some t
  | r :: rs, nd, h => by
    rw [List.map_cons, List.nodup_cons] at nd
    rcases List.mem_cons.mp h with e | e
    · rw [rowT, ← e, if_pos rfl]
    · rw [rowT, if_neg fun z => nd.1 (by rw [z]; exact List.mem_map.mpr ⟨(s, t), e, rfl⟩)]
      exact rowT_at nd.2 e
/-- equal data, as == sees them -/
theorem atom_one {x : V} (h : atom x = true) : SmE.One x := by
  cases x <;> first | exact .inl rfl | cases h
theorem Eqd.g {K : PySem.W.Frag} {H : Hp} : ∀ {n : Nat} {x y : V}, Eqd K H n x y → SmE.Eqg K H n x y
  | 0, _, _, h => ⟨h.1, atom_one h.2⟩
  | n + 1, _, _, .inl h => .inl ⟨h.1, atom_one h.2⟩
  | n + 1, _, _, .inr ⟨a, b, xs, ys, e1, e2, h, l, _, k⟩ => .inr ⟨a, b, xs, ys, e1, e2, h, l, fun i u v hu hv => (k i u v hu hv).g⟩
theorem Eqd.sq {K : PySem.W.Frag} {H : Hp} {n : Nat} {a b : Addr} (h : Eqd K H (n + 1) (.ref a) (.ref b)) (l : n ≤ 60) : SmE.SqEq K H (SmE.Eqg K H 60) (.ref a) (.ref b) := by
  rcases h with h | ⟨a, b, xs, ys, e1, e2, h, l', _, k⟩
  · cases h.2
  · exact ⟨a, b, xs, ys, e1, e2, h, l', fun i u v hu hv => (k i u v hu hv).g.le l⟩
/-- the same rows twice in memory -/
theorem RowAt.eqd {K : PySem.W.Frag} {H : Hp} {n : Nat} {v u : V} {r : Row} (h : RowAt K H n v r) (k : RowAt K H n u r) : Eqd K H (2 * n + 1) v u := by
  obtain ⟨p, x, rfl, hp, hx⟩ := h
  obtain ⟨q, y, rfl, hq, hy⟩ := k
  exact Eqd.tup hp hq rfl (by show 2 ≤ 100000; decide) (all2_cons (Eqd.atom rfl) (all2_cons (hx.eqd hy) all2_nil))
theorem rows_eqd {K : PySem.W.Frag} {H : Hp} {n : Nat} {a b : Addr} {xs ys : List V} {rs : List Row} (ha : H a = some (.lst xs)) (hb : H b = some (.lst ys)) (h : AllG (RowAt K H n) xs rs) (k : AllG (RowAt K H n) ys rs) (l : rs.length ≤ 100) : Eqd K H (2 * n + 2) (.ref a) (.ref b) := by
  refine Eqd.lst (SqL.of ha) (SqL.of hb) (by rw [h.1, k.1]) (by rw [h.1]; omega) fun i u v hu hv => ?_
  obtain ⟨r, hr, h1⟩ := h.at hu
  exact h1.eqd (k.2 i v r hv hr)
theorem isT_dep : ∀ {n m : Nat} {t : Rw}, isT m t = true → t.depth ≤ n → isT n t = true
  | 0, _, t, _, h => by rw [t.depth_eq] at h; omega
  | n + 1, 0, _, h, _ => by cases h
  | n + 1, m + 1, .mk k ts, h, d => by
    have h' : (formK k ts.length && ts.all (isT m)) = true := h
    rw [Bool.and_eq_true] at h'
    show (formK k ts.length && ts.all (isT n)) = true
    rw [Bool.and_eq_true]
    rw [Rw.depth_eq] at d
    refine ⟨h'.1, List.all_eq_true.mpr fun u hu => isT_dep (List.all_eq_true.mp h'.2 u hu) ?_⟩
    have := rdepths_ge (ts := ts) hu
    have d' : 1 + Rw.depths ts ≤ n + 1 := d
    omega
theorem isT_depth : ∀ {n : Nat} {t : Rw}, isT n t = true → t.depth ≤ n
  | 0, _, h => by cases h
  | n + 1, .mk k ts, h => by
    have h' : (formK k ts.length && ts.all (isT n)) = true := h
    rw [Bool.and_eq_true] at h'
    rw [Rw.depth_eq]
    show 1 + Rw.depths ts ≤ n + 1
    by_cases e : ts = []
    · rw [e, Rw.depths]; omega
    · obtain ⟨u, hu, q⟩ := rdepths_in e
      have := isT_depth (List.all_eq_true.mp h'.2 u hu)
      omega
/-- delayed -/
def dly (f : QQ) (t : Rw) : Rw := .mk (.dl (some f)) [t]
theorem dly_size (f : QQ) (t : Rw) : (dly f t).size = 1 + t.size := sz1 _ _
theorem dly_depth (f : QQ) (t : Rw) : (dly f t).depth = 1 + t.depth := by
  rw [Rw.depth_eq]
  show 1 + Rw.depths [t] = _
  rw [Rw.depths, Rw.depths]
  show 1 + max t.depth 0 = _
  omega
theorem dly_flat (f : QQ) (t : Rw) : (dly f t).flat = t.flat := by
  unfold dly
  rw [flat_node (fun ⟨_, z⟩ => by cases z), Rw.flats, Rw.flats, List.append_nil]
theorem dly_isT {f : QQ} {t : Rw} {n : Nat} (hf : fracB f = true) : isT (n + 1) (dly f t) = isT n t := by
  show (fracB f && [t].all (isT n)) = _
  rw [hf, Bool.true_and]
  show (isT n t && true) = _
  rw [Bool.and_true]
/-- what is too large is what is not valid -/
theorem dly_ok {f : QQ} {t : Rw} (hf : fracB f = true) (ht : isT 10 t = true) : (isT 10 (dly f t) && decide ((dly f t).size ≤ 40)) = (decide ((dly f t).size ≤ 40) && decide ((dly f t).depth ≤ 10)) := by
  rw [dly_isT hf, dly_depth, Bool.and_comm]
  congr 1
  by_cases d : 1 + t.depth ≤ 10
  · rw [decide_eq_true d]; exact isT_dep ht (by omega)
  · rw [decide_eq_false d]
    exact Bool.eq_false_iff.mpr fun z => d (by have := isT_depth z; omega)
def dlyRow (s : Str) (u : Rw) (r : Row) : Row := (r.1, if r.1 = s then u else r.2)
theorem dly_names (s : Str) (u : Rw) (rs : List Row) : (rs.map (dlyRow s u)).map Prod.fst = rs.map Prod.fst := by
  rw [List.map_map]
  exact List.map_congr_left fun _ _ => rfl
theorem Vld.delay {rs : List Row} (h : Vld rs) {s : Str} {t : Rw} {f : QQ} (ht : rowT s rs = some t) (hf : fracB f = true) (ok : (isT 10 (dly f t) && decide ((dly f t).size ≤ 40)) = true) : Vld (rs.map (dlyRow s (dly f t))) := by
  rw [Bool.and_eq_true] at ok
  have hm := rowT_mem ht
  refine ⟨by rw [dly_names]; exact h.nd, fun z hz => ?_, fun z hz => ?_, fun z hz => ?_, fun z hz => ?_⟩
  · obtain ⟨r, hr, rfl⟩ := List.mem_map.mp hz
    exact h.nm r hr
  · obtain ⟨r, hr, rfl⟩ := List.mem_map.mp hz
    unfold dlyRow
    dsimp only
    split
    · exact ok.1
    · exact h.it r hr
  · obtain ⟨r, hr, rfl⟩ := List.mem_map.mp hz
    unfold dlyRow
    dsimp only
    split
    · exact of_decide_eq_true ok.2
    · exact h.sz r hr
  · obtain ⟨r, hr, rfl⟩ := List.mem_map.mp hz
    rw [dly_names]
    unfold dlyRow
    dsimp only
    split
    · rw [dly_flat]; exact h.fl (s, t) hm
    · exact h.fl r hr
theorem Vld.okNm {rs : List Row} (h : Vld rs) : ∀ z ∈ rs, okNm z.1 := fun z hz => nm_ok (h.nm z hz)
theorem DlS.frw {K : PySem.W.Frag} {H : Hp} {v : V} {n d : Int} (h : DlS (n, d)) (f : Fr K H v n d) : FrW K H v (n, d) := by
  obtain ⟨h1, h2, h3, _⟩ := h
  have B : (2 : Nat) ^ 120 = 1329227995784915872903807060280344576 := by decide
  exact ⟨f, by rw [B]; have : n.natAbs < 32 := h1; show n.natAbs < _; omega, by rw [B]; have : 0 < d := h2; have : d < 32 := h3; show d.natAbs < _; omega⟩
/-! ### names substituted -/
def evS (rs : List Row) : List Str → Rw
  | [s] => (rowT s rs).getD (.mk (.ev [s]) [])
  | ss => .mk (.ev ss) []
mutual
def Rw.sub (rs : List Row) : Rw → Rw
  | .mk (.ev ss) _ => evS rs ss
  | .mk k ts => .mk k (Rw.subL rs ts)
def Rw.subL (rs : List Row) : List Rw → List Rw
  | [] => []
  | t :: ts => t.sub rs :: Rw.subL rs ts
end
theorem subL_map {rs : List Row} : ∀ ts : List Rw, Rw.subL rs ts = ts.map (Rw.sub rs)
  | [] => by rw [Rw.subL]; rfl
  | t :: ts => by rw [Rw.subL, subL_map ts]; rfl
theorem sub_node {rs : List Row} {k : Rk} {ts : List Rw} (h : ¬ ∃ ss, k = .ev ss) : (Rw.mk k ts).sub rs = .mk k (ts.map (Rw.sub rs)) := by
  rw [← subL_map]
  match k, h with
  | .ev ss, h => exact absurd ⟨ss, rfl⟩ h
  | .dl f, _ => rw [Rw.sub]; intro ss z; cases z
  | .mx ws, _ => rw [Rw.sub]; intro ss z; cases z
  | .nn k, _ => rw [Rw.sub]; intro ss z; cases z
theorem sub_ev {rs : List Row} {s : Str} {ts : List Rw} {t : Rw} (h : rowT s rs = some t) : (Rw.mk (.ev [s]) ts).sub rs = t := by
  rw [Rw.sub]
  show (rowT s rs).getD _ = t
  rw [h]
  rfl
theorem rowT_some {s : Str} : ∀ {rs : List Row}, s ∈ rs.map Prod.fst → ∃ t, rowT s rs = some t
  | [], h => by cases h
  | r :: rs, h => by
    rw [rowT]
    by_cases e : r.1 = s
    · exact ⟨_, if_pos e⟩
    · rw [if_neg e]
      rw [List.map_cons] at h
      rcases List.mem_cons.mp h with z | z
      · exact absurd z.symm e
      · exact rowT_some z
/-- the node of a valid term: one name, or no event at all -/
theorem isT_node {n : Nat} {k : Rk} {ts : List Rw} (h : isT (n + 1) (.mk k ts) = true) : formK k ts.length = true ∧ (∀ u ∈ ts, isT n u = true) ∧ ((∃ s, k = .ev [s] ∧ nameB s = true) ∨ ¬ ∃ ss, k = .ev ss) := by
  have h' : (formK k ts.length && ts.all (isT n)) = true := h
  rw [Bool.and_eq_true] at h'
  refine ⟨h'.1, List.all_eq_true.mp h'.2, ?_⟩
  match k, h'.1 with
  | .ev [s], q => exact .inl ⟨s, rfl, q⟩
  | .dl f, _ => exact .inr fun ⟨_, z⟩ => by cases z
  | .mx ws, _ => exact .inr fun ⟨_, z⟩ => by cases z
  | .nn k, _ => exact .inr fun ⟨_, z⟩ => by cases z
theorem rflats_in {ts : List Rw} {u : Rw} {s : Str} (hu : u ∈ ts) (hs : s ∈ u.flat) : s ∈ Rw.flats ts := by
  induction ts with
  | nil => cases hu
  | cons a l ih =>
    rw [Rw.flats]
    rcases List.mem_cons.mp hu with z | z
    · rw [← z]; exact List.mem_append_left _ hs
    · exact List.mem_append_right _ (ih z)
theorem rin_flats {ts : List Rw} {s : Str} (hs : s ∈ Rw.flats ts) : ∃ u ∈ ts, s ∈ u.flat := by
  induction ts with
  | nil => rw [Rw.flats] at hs; cases hs
  | cons a l ih =>
    rw [Rw.flats] at hs
    rcases List.mem_append.mp hs with z | z
    · exact ⟨a, List.mem_cons_self, z⟩
    · obtain ⟨u, h1, h2⟩ := ih z
      exact ⟨u, List.mem_cons_of_mem _ h1, h2⟩
theorem sub_isT {rs : List Row} {m : Nat} (hr : ∀ z ∈ rs, isT m z.2 = true) : ∀ {n : Nat} {t : Rw}, isT n t = true → (∀ s ∈ t.flat, s ∈ rs.map Prod.fst) → isT (n + m) (t.sub rs) = true
  | 0, _, h, _ => by cases h
  | n + 1, .mk k ts, h, hf => by
    obtain ⟨h1, h2, ⟨s, rfl, ns⟩ | hk⟩ := isT_node h
    · obtain ⟨t, e⟩ := rowT_some (hf s (by rw [Rw.flat]; exact List.mem_singleton.mpr rfl))
      rw [sub_ev e]
      exact isT_le (by omega) (hr _ (rowT_mem e))
    · rw [sub_node hk, show n + 1 + m = (n + m) + 1 by omega]
      show (formK k (ts.map (Rw.sub rs)).length && (ts.map (Rw.sub rs)).all (isT (n + m))) = true
      rw [List.length_map, h1, Bool.true_and]
      refine List.all_eq_true.mpr fun u hu => ?_
      obtain ⟨v, hv, rfl⟩ := List.mem_map.mp hu
      exact sub_isT hr (h2 v hv) fun s hs => hf s (by rw [flat_node hk]; exact rflats_in hv hs)
theorem sub_flat {rs : List Row} {ns : List Str} (hr : ∀ z ∈ rs, ∀ s ∈ z.2.flat, s ∈ ns) : ∀ {n : Nat} {t : Rw}, isT n t = true → (∀ s ∈ t.flat, s ∈ rs.map Prod.fst) → ∀ s ∈ (t.sub rs).flat, s ∈ ns
  | 0, _, h, _ => by cases h
  | n + 1, .mk k ts, h, hf => by
    obtain ⟨h1, h2, ⟨s, rfl, _⟩ | hk⟩ := isT_node h
    · obtain ⟨t, e⟩ := rowT_some (hf s (by rw [Rw.flat]; exact List.mem_singleton.mpr rfl))
      rw [sub_ev e]
      exact hr _ (rowT_mem e)
    · rw [sub_node hk, flat_node hk]
      intro s hs
      obtain ⟨u, hu, q⟩ := rin_flats hs
      obtain ⟨v, hv, rfl⟩ := List.mem_map.mp hu
      exact sub_flat hr (h2 v hv) (fun s hs => hf s (by rw [flat_node hk]; exact rflats_in hv hs)) s q
/-- what is too large is what is not valid -/
theorem large_ok {n : Nat} {t : Rw} (h : isT n t = true) : (isT 10 t && decide (t.size ≤ 40)) = (decide (t.size ≤ 40) && decide (t.depth ≤ 10)) := by
  rw [Bool.and_comm]
  congr 1
  by_cases d : t.depth ≤ 10
  · rw [decide_eq_true d]; exact isT_dep h d
  · rw [decide_eq_false d]
    exact Bool.eq_false_iff.mpr fun z => d (isT_depth z)
def subRow (rs : List Row) (r : Row) : Row := (r.1, r.2.sub rs)
theorem sub_names (rs qs : List Row) : (qs.map (subRow rs)).map Prod.fst = qs.map Prod.fst := by
  rw [List.map_map]
  exact List.map_congr_left fun _ _ => rfl
/-- rows whose term is too large or not valid -/
def bigL (ws : List Row) : List Row := ws.filter fun r => !(isT 10 r.2 && decide (r.2.size ≤ 40))
theorem Vld.sub {rs qs : List Row} (h : Vld rs) (k : Vld qs) (e : rs.map Prod.fst = qs.map Prod.fst) (b : bigL (qs.map (subRow rs)) = []) : Vld (qs.map (subRow rs)) := by
  have good : ∀ r ∈ qs.map (subRow rs), isT 10 r.2 = true ∧ r.2.size ≤ 40 := fun r hr => by
    have := List.filter_eq_nil_iff.mp b r hr
    rw [Bool.not_eq_true, Bool.not_eq_false', Bool.and_eq_true] at this
    exact ⟨this.1, of_decide_eq_true this.2⟩
  refine ⟨by rw [sub_names]; exact k.nd, fun z hz => ?_, fun z hz => (good z hz).1, fun z hz => (good z hz).2, fun z hz s hs => ?_⟩
  · obtain ⟨r, hr, rfl⟩ := List.mem_map.mp hz
    exact k.nm r hr
  · obtain ⟨r, hr, rfl⟩ := List.mem_map.mp hz
    rw [sub_names, ← e]
    exact sub_flat (fun z hz => h.fl z hz) (k.it r hr) (fun s hs => by rw [e]; exact k.fl r hr s hs) s hs
/-! ### rows as a dict -/
def RowD (K : PySem.W.Frag) (H : Hp) (d : Addr) (m : Nat) (rs : List Row) (ss : List Str) : Prop := ∃ kvs : List (Key × V), H d = some (.dK kvs) ∧ ∀ s ∈ ss, ∃ v t, valV kvs (Sum.inr s : Key) = some v ∧ rowT s rs = some t ∧ RwAt K H m v t
theorem RowD.same {K : PySem.W.Frag} {H H' : Hp} {d : Addr} {m : Nat} {rs : List Row} {ss : List Str} (h : RowD K H d m rs ss) (s : Same H H') : RowD K H' d m rs ss := by
  obtain ⟨kvs, e, z⟩ := h
  refine ⟨kvs, s _ _ e, fun x hx => ?_⟩
  obtain ⟨v, t, h1, h2, h3⟩ := z x hx
  exact ⟨v, t, h1, h2, h3.same s⟩
theorem RowD.sub {K : PySem.W.Frag} {H : Hp} {d : Addr} {m : Nat} {rs : List Row} {ss ts : List Str} (h : RowD K H d m rs ss) (k : ∀ s ∈ ts, s ∈ ss) : RowD K H d m rs ts := by
  obtain ⟨kvs, e, z⟩ := h
  exact ⟨kvs, e, fun x hx => z x (k x hx)⟩
theorem valV_merge {ss : List Str} {vs : List V} {j : Nat} {s : Str} {v : V} (nd : ss.Nodup) (h1 : ss[j]? = some s) (h2 : vs[j]? = some v) : valV (mergeK [] (kvz ss vs)) (Sum.inr s : Key) = some v := merge_at nd h1 h2
/-- .. that may lack names -/
def RowX (K : PySem.W.Frag) (H : Hp) (d : Addr) (m : Nat) (rs : List Row) (ss : List Str) : Prop := ∃ kvs : List (Key × V), H d = some (.dK kvs) ∧ ∀ s ∈ ss, (∃ v t, valV kvs (Sum.inr s : Key) = some v ∧ rowT s rs = some t ∧ RwAt K H m v t) ∨ (valV kvs (Sum.inr s : Key) = none ∧ rowT s rs = none)
theorem RowX.same {K : PySem.W.Frag} {H H' : Hp} {d : Addr} {m : Nat} {rs : List Row} {ss : List Str} (h : RowX K H d m rs ss) (s : Same H H') : RowX K H' d m rs ss := by
  obtain ⟨kvs, e, z⟩ := h
  refine ⟨kvs, s _ _ e, fun x hx => ?_⟩
  rcases z x hx with ⟨v, t, h1, h2, h3⟩ | h
  · exact .inl ⟨v, t, h1, h2, h3.same s⟩
  · exact .inr h
theorem RowX.sub {K : PySem.W.Frag} {H : Hp} {d : Addr} {m : Nat} {rs : List Row} {ss ts : List Str} (h : RowX K H d m rs ss) (k : ∀ s ∈ ts, s ∈ ss) : RowX K H d m rs ts := by
  obtain ⟨kvs, e, z⟩ := h
  exact ⟨kvs, e, fun x hx => z x (k x hx)⟩
/-- dict(..) of rows -/
theorem RowD.made {K : PySem.W.Frag} {H : Hp} {l : Addr} {xs : List V} {m : Nat} {rs : List Row} (hl : H l = some (.lst xs)) (hA : AllG (RowAt K H m) xs rs) (nd : (rs.map Prod.fst).Nodup) :
    ∃ (ps : List Addr) (kvs : List (Key × V)), SqL K H l (ps.map V.ref) ∧ Paired (fun p kv => SqT K H p [kV kv.1, kv.2]) ps kvs ∧ ∀ d, H d = none → RowD K (upd H d (.dK (mergeK [] kvs))) d m rs (rs.map Prod.fst) ∧ ∀ ss, RowX K (upd H d (.dK (mergeK [] kvs))) d m rs ss := by
  have key : ∀ (xs : List V) (rs : List Row), AllG (RowAt K H m) xs rs → ∃ (ps : List Addr) (vs : List V), xs = ps.map V.ref ∧ ps.length = rs.length ∧ vs.length = rs.length ∧ ∀ (j : Nat) p r v, ps[j]? = some p → rs[j]? = some r → vs[j]? = some v → SqT K H p [.str r.1, v] ∧ RwAt K H m v r.2 := by
    intro xs
    induction xs with
    | nil =>
      intro rs h
      have : rs = [] := List.length_eq_zero_iff.mp h.1.symm
      subst this
      exact ⟨[], [], rfl, rfl, rfl, fun j p r v z => by cases z⟩
    | cons x xs ih =>
      intro rs h
      cases rs with
      | nil => have := h.1; cases this
      | cons r rs =>
        obtain ⟨p, v, e, h1, h2⟩ := h.2 0 x r rfl rfl
        obtain ⟨ps, vs, e1, l1, l2, hh⟩ := ih rs ⟨by have := h.1; simpa using this, fun i y u a b => h.2 (i + 1) y u a b⟩
        refine ⟨p :: ps, v :: vs, by rw [e, e1]; rfl, by rw [List.length_cons, List.length_cons, l1], by rw [List.length_cons, List.length_cons, l2], fun j p' r' v' a b c => ?_⟩
        cases j with
        | zero => cases a; cases b; cases c; exact ⟨h1, h2⟩
        | succ j => exact hh j p' r' v' a b c
  obtain ⟨ps, vs, rfl, l1, l2, hh⟩ := key xs rs hA
  have l1' : ps.length = (rs.map Prod.fst).length := by rw [List.length_map]; exact l1
  have l2' : vs.length = (rs.map Prod.fst).length := by rw [List.length_map]; exact l2
  have main : ∀ d, H d = none → ∀ s ∈ rs.map Prod.fst, ∃ v t, valV (mergeK [] (kvz (rs.map Prod.fst) vs)) (Sum.inr s : Key) = some v ∧ rowT s rs = some t ∧ RwAt K (upd H d (.dK (mergeK [] (kvz (rs.map Prod.fst) vs)))) m v t := fun d nd' s hs => by
    obtain ⟨j, hj, e⟩ := List.getElem_of_mem hs
    have hs' : (rs.map Prod.fst)[j]? = some s := by rw [List.getElem?_eq_getElem hj, e]
    have hj' : j < rs.length := by rw [List.length_map] at hj; exact hj
    have hr : rs[j]? = some (rs[j]'hj') := List.getElem?_eq_getElem _
    have hv : vs[j]? = some (vs[j]'(by omega)) := List.getElem?_eq_getElem _
    have hp : ps[j]? = some (ps[j]'(by omega)) := List.getElem?_eq_getElem _
    have es : (rs[j]'hj').1 = s := by rw [List.getElem?_map, hr] at hs'; exact Option.some.inj hs'
    refine ⟨_, _, valV_merge nd hs' hv, rowT_at nd (t := (rs[j]'hj').2) ?_, ((hh j _ _ _ hp hr hv).2).same (Same.new nd')⟩
    rw [← es]
    exact List.getElem_mem hj'
  refine ⟨ps, kvz (rs.map Prod.fst) vs, SqL.of hl, paired_of l1' l2' fun j p s v a b c => ?_, fun d nd' => ⟨⟨_, upd_same, main d nd'⟩, fun ss => ⟨_, upd_same, fun s _ => ?_⟩⟩⟩
  · rw [List.getElem?_map] at b
    cases e : rs[j]? with
    | none => rw [e] at b; cases b
    | some r => rw [e] at b; cases b; exact (hh j p r v a e c).1
  · by_cases hm : s ∈ rs.map Prod.fst
    · exact .inl (main d nd' s hm)
    · refine .inr ⟨?_, rowT_none hm⟩
      rw [merge_old]
      · rfl
      · intro z hz e
        obtain ⟨w, hw, rfl⟩ := List.mem_map.mp hz
        exact hm (Sum.inr.inj e ▸ (List.of_mem_zip hw).1)
theorem sub_evn {rs : List Row} {s : Str} {ts : List Rw} (h : rowT s rs = none) : (Rw.mk (.ev [s]) ts).sub rs = .mk (.ev [s]) [] := by
  rw [Rw.sub]
  show (rowT s rs).getD _ = _
  rw [h]
  rfl
/-- equal texts in lists -/
def SD (ss : List Str) : List PyData := ss.map PyData.str
theorem nm_strOk {s : Str} (h : nameB s = true) : PyData.strOk s = true := by
  unfold nameB at h
  simp only [Bool.and_eq_true, decide_eq_true_eq] at h
  unfold PyData.strOk
  rw [Array.all_eq_true_iff_forall_mem]
  intro c hc
  have z := List.all_eq_true.mp h.2.1 c (by simpa using hc)
  unfold lowB at z
  simp only [Bool.and_eq_true, decide_eq_true_eq] at z
  exact decide_eq_true (by omega)
theorem SD_lay : ∀ ss : List Str, (∀ s ∈ ss, nameB s = true) → PyData.canLayAll0 (SD ss) = true
  | [], _ => by simp [SD, PyData.canLayAll0]
  | i :: is, h => by
    have := SD_lay is fun s hs => h s (List.mem_cons_of_mem _ hs)
    unfold SD at this ⊢
    rw [List.map_cons, PyData.canLayAll0, this]
    simp [PyData.canLay0, nm_strOk (h i List.mem_cons_self)]
theorem SD_depth : ∀ ss : List Str, PyData.depthAll (SD ss) = 0
  | [] => by simp [SD, PyData.depthAll]
  | i :: is => by
    have := SD_depth is
    unfold SD at this ⊢
    rw [List.map_cons, PyData.depthAll, this]
    simp [PyData.depth]
theorem SD_shaped {ss : List Str} (h : ∀ s ∈ ss, nameB s = true) : SeqAt.shaped (.list (SD ss)) = true := by
  unfold SeqAt.shaped
  rw [PyData.canLay0, SD_lay ss h, PyData.depth, SD_depth]
  rfl
theorem SD_all {K : PySem.W.Frag} {H : Hp} : ∀ ss : List Str, DpAll K H (ss.map V.str) (SD ss)
  | [] => .nil
  | i :: is => .cons (.str _) (SD_all is)
theorem SD_eqv : ∀ ss ts : List Str, PyData.eqvAll (SD ss) (SD ts) = decide (ss = ts)
  | [], [] => by simp [SD, PyData.eqvAll]
  | [], _ :: _ => by simp [SD, PyData.eqvAll]
  | _ :: _, [] => by simp [SD, PyData.eqvAll]
  | s :: ss, t :: ts => by
    have ih := SD_eqv ss ts
    unfold SD at ih ⊢
    rw [List.map_cons, List.map_cons, PyData.eqvAll, ih]
    by_cases h : s = t
    · subst h
      by_cases q : ss = ts
      · subst q; simp [PyData.eqv]
      · simp [PyData.eqv, q]
    · simp [PyData.eqv, h]
theorem SD_eq (ss ts : List Str) : PyData.eqv (.list (SD ss)) (.list (SD ts)) = decide (ss = ts) := by rw [PyData.eqv]; exact SD_eqv ss ts
theorem callDictK {X : Cx} {K : PySem.W.Frag} (hc : X.calm = true) (h : X.K = K) : CallR X (.type "dict") (fun xs H Q => ∃ (a : Addr) (ps : List Addr) (kvs : List (Key × V)), xs = [.ref a] ∧ SqL K H a (ps.map V.ref) ∧ Paired (fun p kv => SqT K H p [kV kv.1, kv.2]) ps kvs ∧ ∀ p, H p = none → Q (.ref p) (upd H p (.dK (mergeK [] kvs)))) := by subst h; exact call_dictP hc
theorem Eqd.tup2 {K : PySem.W.Frag} {H : Hp} {n : Nat} {p q : Addr} {x1 x2 y1 y2 : V} (h1 : SqT K H p [x1, x2]) (h2 : SqT K H q [y1, y2]) (e1 : Eqd K H n x1 y1) (e2 : Eqd K H n x2 y2) : Eqd K H (n + 1) (.ref p) (.ref q) :=
  Eqd.tup h1 h2 rfl (by show 2 ≤ 100000; decide) (all2_cons e1 (all2_cons e2 all2_nil))
theorem RowAt.le {K : PySem.W.Frag} {H : Hp} {n m : Nat} (l : n ≤ m) {v : V} {r : Row} (h : RowAt K H n v r) : RowAt K H m v r := by
  obtain ⟨p, x, e, hp, hx⟩ := h
  exact ⟨p, x, e, hp, hx.le l⟩
theorem RowAt.low {K : PySem.W.Frag} {H : Hp} {n m : Nat} {v : V} {r : Row} (h : RowAt K H n v r) (k : isT m r.2 = true) : RowAt K H m v r := by
  obtain ⟨p, x, e, hp, hx⟩ := h
  exact ⟨p, x, e, hp, hx.low k⟩
def bigO (ws : List Row) : Option (Str × V) :=
  match bigL ws with
  | r :: _ => some (("TermTooLarge" : Str), V.str r.1)
  | [] => none
theorem bigO_cons {ws l : List Row} {r : Row} (h : bigL ws = r :: l) : bigO ws = some (("TermTooLarge" : Str), V.str r.1) := by unfold bigO; rw [h]
theorem bigO_nil {ws : List Row} (h : bigL ws = []) : bigO ws = none := by unfold bigO; rw [h]
theorem SysAt.ext {K : PySem.W.Frag} {H H' : Hp} {C x : Addr} {n : Nat} {rs : List Row} (h : SysAt K H C x n rs) (k : LamX.ExtN H H') : SysAt K H' C x n rs := by
  obtain ⟨dx, pl, ys, h1, h2, h3⟩ := h
  exact ⟨dx, pl, ys, k _ _ h1 (fun ps z => by cases z), k _ _ h2 (fun ps z => by cases z), h3.mono fun _ _ z => z.imp fun _ _ q => ExtN.T k q⟩
/-- an outcome: the rows, or an error's tag and field -/
def OutD (K : PySem.W.Frag) (H : Hp) (o : Option (Str × V)) (rs : List Row) (v : V) : Prop := ∃ e, v = .ref e ∧ ((o = none ∧ ∃ lo ys, SqT K H e [.ref lo, .str "", .non] ∧ H lo = some (.lst ys) ∧ AllG (RowAt K H 12) ys rs) ∨ (∃ tag x, o = some (tag, x) ∧ atom x = true ∧ SqT K H e [.non, .str tag, x]))
theorem OutD.same {K : PySem.W.Frag} {H H' : Hp} {o : Option (Str × V)} {rs : List Row} {v : V} (h : OutD K H o rs v) (s : Same H H') : OutD K H' o rs v := by
  obtain ⟨e, rfl, ⟨z, lo, ys, h1, h2, h3⟩ | ⟨tag, x, z, q, h1⟩⟩ := h
  · exact ⟨e, rfl, .inl ⟨z, lo, ys, Same.T s h1, s _ _ h2, h3.mono fun _ _ q => q.same s⟩⟩
  · exact ⟨e, rfl, .inr ⟨tag, x, z, q, Same.T s h1⟩⟩
theorem OutD.ext {K : PySem.W.Frag} {H H' : Hp} {o : Option (Str × V)} {rs : List Row} {v : V} (h : OutD K H o rs v) (k : LamX.ExtN H H') : OutD K H' o rs v := by
  obtain ⟨e, rfl, ⟨z, lo, ys, h1, h2, h3⟩ | ⟨tag, x, z, q, h1⟩⟩ := h
  · exact ⟨e, rfl, .inl ⟨z, lo, ys, ExtN.T k h1, k _ _ h2 (fun ps z => by cases z), h3.mono fun _ _ q => q.imp fun _ _ y => ExtN.T k y⟩⟩
  · exact ⟨e, rfl, .inr ⟨tag, x, z, q, ExtN.T k h1⟩⟩
theorem OutD.eqd {K : PySem.W.Frag} {H : Hp} {o : Option (Str × V)} {rs : List Row} {v u : V} (h : OutD K H o rs v) (k : OutD K H o rs u) (l : rs.length ≤ 12) : Eqd K H 27 v u := by
  obtain ⟨e, rfl, ⟨z, lo, ys, h1, h2, h3⟩ | ⟨tag, x, z, q, h1⟩⟩ := h
  · obtain ⟨e', rfl, ⟨_, lo', ys', k1, k2, k3⟩ | ⟨tag', x', z', _⟩⟩ := k
    · exact Eqd.tup3 h1 k1 (rows_eqd h2 k2 h3 k3 (by omega)) (Eqd.atom rfl) (Eqd.atom rfl)
    · rw [z] at z'; cases z'
  · obtain ⟨e', rfl, ⟨z', _⟩ | ⟨tag', x', z', _, k1⟩⟩ := k
    · rw [z] at z'; cases z'
    · rw [z] at z'
      cases z'
      exact Eqd.tup3 h1 k1 (Eqd.atom rfl) (Eqd.atom rfl) (Eqd.atom q)
/-- iterators over a list or a tuple that stands -/
structure SeqIt (J : It) (H : Hp) (xs : List V) : Prop where
  go : ∀ i H', Same H H' → i < xs.length → J.go i H'
  stop : ∀ i H', Same H H' → xs.length ≤ i → J.stop i H'
  yld : ∀ i H' x H'', Same H H' → J.yld i H' x H'' → H'' = H' ∧ xs[i]? = some x
theorem seqIt_l {K : PySem.W.Frag} {H : Hp} {a : Addr} {xs : List V} (h : SqL K H a xs) : SeqIt (Itl K a) H xs :=
  ⟨fun i H' s hi => ⟨xs, xs[i], s.seq h, List.getElem?_eq_getElem hi⟩, fun i H' s hi => ⟨xs, s.seq h, hi⟩, fun i H' x H'' s hy => ⟨hy.1, hy.2 xs (s.seq h)⟩⟩
theorem seqIt_t {K : PySem.W.Frag} {H : Hp} {a : Addr} {xs : List V} (h : SqT K H a xs) : SeqIt (Itt K a) H xs :=
  ⟨fun i H' s hi => ⟨xs, xs[i], Same.T s h, List.getElem?_eq_getElem hi⟩, fun i H' s hi => ⟨xs, Same.T s h, hi⟩, fun i H' x H'' s hy => ⟨hy.1, hy.2 xs (Same.T s h)⟩⟩
theorem seq_or {K : PySem.W.Frag} {te : TE} {σ : L2.St} {H : Hp} {a : Addr} {xs : List V} {R : It → Hp → Prop} (hte : ∀ Q : VK, Q (.ref a) H → te σ H Q) (h : SqT K H a xs ∨ SqL K H a xs) (k : ∀ J, SeqIt J H xs → R J H) : iList K te σ H R ∨ iTup K te σ H R := by
  rcases h with h | h
  · exact .inr (hte _ ⟨a, rfl, ⟨_, h⟩, k _ (seqIt_t h)⟩)
  · exact .inl (hte _ ⟨a, rfl, ⟨_, h⟩, k _ (seqIt_l h)⟩)
theorem lc_sq {J : It} {H0 : Hp} {xs : List V} {g : TG} {tt : TT} {te : TE} {vs : List Nat} {σ : L2.St} {D : Addr} {Qd : Hp → Prop} (hJ : SeqIt J H0 xs) (Pv : Nat → Hp → Prop) (h0 : Pv 0 (upd H0 D (.lst []))) (hl : ∀ i H, i ≤ xs.length → Pv i H → Same H0 H)
    (hs : ∀ i x H, xs[i]? = some x → Pv i H → g x (wipe σ vs) H fun σ2 H2 => wipe σ2 vs = wipe σ vs ∧ tt σ2 H2 fun b H3 =>
      if b = true then te σ2 H3 fun y H4 => ∃ acc, H4 D = some (.lst acc) ∧ acc.length < sizeLine ∧ Pv (i + 1) (upd H4 D (.lst (acc ++ [y]))) else Pv (i + 1) H3) (hd : ∀ H, Pv xs.length H → Qd H) :
    ∃ W : Nat → Nat → Hp → Prop, (∃ m, W 0 m (upd H0 D (.lst []))) ∧ ∀ i m H, W i m H →
      (J.stop i H ∧ Qd H) ∨ (J.go i H ∧ ∃ Nx : Hp → Prop, (∀ H', Nx H' → ∃ m', m' < m ∧ W (i + 1) m' H') ∧ ∀ x H', J.yld i H x H' → g x (wipe σ vs) H' fun σ2 H2 => wipe σ2 vs = wipe σ vs ∧ tt σ2 H2 fun b H3 =>
        if b = true then te σ2 H3 fun y H4 => ∃ acc, H4 D = some (.lst acc) ∧ acc.length < sizeLine ∧ Nx (upd H4 D (.lst (acc ++ [y]))) else Nx H3) := by
  refine ⟨fun i m H => m = xs.length - i ∧ i ≤ xs.length ∧ Pv i H, ⟨xs.length, by simp, Nat.zero_le _, h0⟩, ?_⟩
  rintro i m H ⟨rfl, hi, p⟩
  have s := hl i H hi p
  by_cases hlt : i < xs.length
  · refine .inr ⟨hJ.go i H s hlt, Pv (i + 1), fun H' p' => ⟨xs.length - (i + 1), by omega, rfl, hlt, p'⟩, fun x H' y => ?_⟩
    obtain ⟨e, y2⟩ := hJ.yld i H x H' s y
    subst e
    exact hs i x _ y2 p
  · have e : i = xs.length := by omega
    subst e
    exact .inl ⟨hJ.stop _ H s (Nat.le_refl _), hd H p⟩
/-- integers that are rationals times one factor -/
def Sc (k : Rat) (xs : List Int) (vs : List Rat) : Prop := xs.length = vs.length ∧ ∀ (i : Nat) x v, xs[i]? = some x → vs[i]? = some v → (x : Rat) = v * k
theorem Sc.to {k : Rat} {xs : List Int} {vs : List Rat} (h : Sc k xs vs) {i : Nat} {x : Int} (hx : xs[i]? = some x) : ∃ v, vs[i]? = some v ∧ (x : Rat) = v * k := by
  have l : i < vs.length := by rw [← h.1]; exact (List.getElem?_eq_some_iff.mp hx).1
  exact ⟨vs[i], List.getElem?_eq_getElem l, h.2 i x _ hx (List.getElem?_eq_getElem l)⟩
theorem Sc.from {k : Rat} {xs : List Int} {vs : List Rat} (h : Sc k xs vs) {i : Nat} {v : Rat} (hv : vs[i]? = some v) : ∃ x, xs[i]? = some x ∧ (x : Rat) = v * k := by
  have l : i < xs.length := by rw [h.1]; exact (List.getElem?_eq_some_iff.mp hv).1
  exact ⟨xs[i], List.getElem?_eq_getElem l, h.2 i _ v (List.getElem?_eq_getElem l) hv⟩
theorem Sc.nil {k : Rat} : Sc k [] [] := ⟨rfl, fun i x v h => by cases h⟩
theorem Sc.snoc {k : Rat} {xs : List Int} {vs : List Rat} {x : Int} {v : Rat} (h : Sc k xs vs) (e : (x : Rat) = v * k) : Sc k (xs ++ [x]) (vs ++ [v]) := by
  refine ⟨by rw [List.length_append, List.length_append, h.1]; rfl, fun i y u a b => ?_⟩
  by_cases hi : i < xs.length
  · rw [List.getElem?_append_left hi] at a
    rw [List.getElem?_append_left (by rw [← h.1]; exact hi)] at b
    exact h.2 i y u a b
  · have ei : i = xs.length := by
      have := (List.getElem?_eq_some_iff.mp a).1
      rw [List.length_append] at this
      have : i < xs.length + 1 := this
      omega
    subst ei
    rw [List.getElem?_append_right (Nat.le_refl _), Nat.sub_self] at a
    rw [h.1, List.getElem?_append_right (Nat.le_refl _), Nat.sub_self] at b
    cases a
    cases b
    exact e
theorem iop_mulW {X : Cx} : OpR X (inplaceOp .Mult) (rI CMulW fun i j => .int (i * j)) := opI fun _ _ _ _ _ _ _ hc q => imul_int q hc.ok
theorem lcm_least {a b m g : Int} (hg : g = (Int.gcd a b : Int)) (h : m * g = a * b) (a0 : 0 < a) (b0 : 0 < b) {c : Int} (h1 : a ∣ c) (h2 : b ∣ c) : m ∣ c := by
  have e := Int.gcd_mul_lcm a b
  have e2 : (Int.gcd a b : Int) * (Int.lcm a b : Int) = a * b := by
    have z := congrArg (Nat.cast (R := Int)) e
    rw [Int.natCast_mul, Int.natCast_mul, Int.natAbs_of_nonneg (by omega), Int.natAbs_of_nonneg (by omega)] at z
    exact z
  have g0 : (Int.gcd a b : Int) ≠ 0 := by
    intro z
    rw [z, Int.zero_mul] at e2
    have := Int.mul_pos a0 b0
    omega
  have e3 : m = (Int.lcm a b : Int) := by
    apply Int.eq_of_mul_eq_mul_left g0
    rw [e2, ← h, hg, Int.mul_comm]
  rw [e3]
  exact Int.coe_lcm_dvd h1 h2
theorem for_sq {J : It} {H0 : Hp} {xs : List V} {g : TG} {tb : TS} {D : Ends} {σ : L2.St} (hJ : SeqIt J H0 xs) (Pv : Nat → L2.St → Hp → Prop) (h0 : Pv 0 σ H0) (hl : ∀ i σ H, i ≤ xs.length → Pv i σ H → Same H0 H)
    (hs : ∀ i x σ H, xs[i]? = some x → Pv i σ H → g x σ H fun σ2 H2 => tb { D with nx := Pv (i + 1), ct := Pv (i + 1), bk := D.nx } σ2 H2) (hd : ∀ σ H, Pv xs.length σ H → D.nx σ H) :
    ∃ W : Nat → Nat → L2.St → Hp → Prop, (∃ m, W 0 m σ H0) ∧ ∀ i m σ H, W i m σ H →
      (J.stop i H ∧ D.nx σ H) ∨ (J.go i H ∧ ∃ N : L2.St → Hp → Prop, (∀ σ' H', N σ' H' → ∃ m', m' < m ∧ W (i + 1) m' σ' H') ∧ ∀ x H', J.yld i H x H' → g x σ H' fun σ2 H2 => tb { D with nx := N, ct := N, bk := D.nx } σ2 H2) := by
  refine ⟨fun i m σ H => m = xs.length - i ∧ i ≤ xs.length ∧ Pv i σ H, ⟨xs.length, by simp, Nat.zero_le _, h0⟩, ?_⟩
  rintro i m σ H ⟨rfl, hi, p⟩
  have s := hl i σ H hi p
  by_cases hlt : i < xs.length
  · refine .inr ⟨hJ.go i H s hlt, Pv (i + 1), fun σ' H' p' => ⟨xs.length - (i + 1), by omega, rfl, hlt, p'⟩, fun x H' y => ?_⟩
    obtain ⟨e, y2⟩ := hJ.yld i H x H' s y
    subst e
    exact hs i x σ _ y2 p
  · have e : i = xs.length := by omega
    subst e
    exact .inl ⟨hJ.stop _ H s (Nat.le_refl _), hd σ H p⟩
/-! ### drawn terms, read as terms over rationals -/
theorem ex_raws {ss : List Str} {n : Nat} : ∀ {ts : List Rw}, (∀ t ∈ ts, ∃ u : Tm, u.raw = t ∧ WT ss n u) → ∃ us : List Tm, us.map Tm.raw = ts ∧ ∀ u ∈ us, WT ss n u
  | [], _ => ⟨[], rfl, fun u hu => by cases hu⟩
  | t :: ts, h => by
    obtain ⟨u, e, hu⟩ := h t List.mem_cons_self
    obtain ⟨us, es, hus⟩ := ex_raws fun x hx => h x (List.mem_cons_of_mem _ hx)
    exact ⟨u :: us, by rw [List.map_cons, e, es], fun x hx => by
      rcases List.mem_cons.mp hx with rfl | hx
      · exact hu
      · exact hus x hx⟩
theorem WR.tm {ss : List Str} : ∀ {n : Nat} {t : Rw}, WR ss n t → ∃ u : Tm, u.raw = t ∧ WT ss n u
  | 0, _, h => h.elim
  | n + 1, .mk k ts, h => by
    obtain ⟨us, es, hus⟩ := ex_raws fun t ht => WR.tm (h.2 t ht)
    have ul : us.length = ts.length := by rw [← es, List.length_map]
    have hk := h.1
    have mk : ∀ kd : Kd, kd.raw = k → KdW kd us.length → ∃ u : Tm, u.raw = .mk k ts ∧ WT ss (n + 1) u := fun kd e hw => ⟨.nd kd us, by rw [Tm.raw, raws_map, e, es], hw, hus⟩
    match k, hk with
    | .ev l, ⟨e0, s, hs, e⟩ =>
      subst e
      have t0 : ts = [] := List.length_eq_zero_iff.mp e0
      subst t0
      exact ⟨.ev s, by rw [Tm.raw], hs⟩
    | .dl (some f), ⟨e1, hd⟩ => exact mk (.delay f) rfl ⟨by rw [ul]; exact e1, hd⟩
    | .mx ws, ⟨⟨m1, m6⟩, wl, sw⟩ => exact mk (.mix ws) rfl ⟨⟨by omega, by omega⟩, by omega, sw⟩
    | .nn kk, .inl ⟨.inl e, m1, m6⟩ => subst e; exact mk .max rfl ⟨by omega, by omega⟩
    | .nn kk, .inl ⟨.inr e, m1, m6⟩ => subst e; exact mk .min rfl ⟨by omega, by omega⟩
    | .nn kk, .inr ⟨e, m3⟩ => subst e; exact mk .median rfl (by show us.length = 3; omega)
theorem DlS.frb {K : PySem.W.Frag} {H : Hp} {v : V} {f : QQ} (h : DlS f) (g : FrW K H v f) : FrB K H v f.1 f.2 40 := by
  have B : (2 : Nat) ^ 40 = 1099511627776 := by decide
  exact ⟨g.fr, h.2.1, h.2.2.2, by rw [B]; have := h.1; omega, by rw [B]; have := h.2.1; have := h.2.2.1; omega⟩
theorem WT.at {K : PySem.W.Frag} {H : Hp} {ss : List Str} : ∀ {n : Nat} {v : V} {u : Tm}, WT ss n u → RwAt K H n v u.raw → TmAt K H n v u
  | 0, _, _, h, _ => h.elim
  | n + 1, v, .ev s, h, g => by
    rw [Tm.raw] at g
    obtain ⟨_, xs, ⟨_, _, _, p, e, z⟩, _⟩ := g
    exact ⟨p, e, z⟩
  | n + 1, v, .nd k us, h, g => by
    rw [Tm.raw, raws_map] at g
    obtain ⟨_, xs, hN, hA⟩ := g
    have hw := h.1
    have xl : xs.length = us.length := by rw [hA.1, List.length_map]
    refine ⟨xs, ?_, xl, fun i x t a b => WT.at (h.2 t (List.mem_of_getElem? b)) (hA.2 i x t.raw a (by rw [List.getElem?_map, b]; rfl))⟩
    cases k with
    | delay f =>
      obtain ⟨p, x, fv, e1, e2, z, ff⟩ := hN
      exact ⟨p, x, fv, e1, e2, z, hw.2.frb ff⟩
    | max => obtain ⟨_, _, _, p, e, z⟩ := hN; exact ⟨p, e, z⟩
    | min => obtain ⟨_, _, _, p, e, z⟩ := hN; exact ⟨p, e, z⟩
    | median => obtain ⟨_, _, _, p, e, z⟩ := hN; exact ⟨p, e, z⟩
    | mix ws =>
      obtain ⟨p, ys, e, z, l1, l2, hm⟩ := hN
      refine ⟨p, ys, e, z, l1, l2, fun i y x f a b c => ?_⟩
      obtain ⟨q, wv, e1, e2, e3⟩ := hm i y x f a b c
      have B : (2 : Nat) ^ 40 = 1099511627776 := by decide
      have n0 : ws ≠ [] := fun e => by have := hw.2.1; have := hw.1.1; rw [e] at *; simp at *; omega
      obtain ⟨lo, p0, n5, d5⟩ := hw.2.2.low n0 f (List.mem_of_getElem? c)
      exact ⟨q, wv, e1, e2, ⟨e3.fr, lo.1, lo.2, by rw [B]; omega, by rw [B]; have := lo.1; omega⟩⟩
theorem tm_size (k : Kd) (us : List Tm) : (Tm.nd k us).size = 1 + Tm.sizes us := by rw [Tm.size]
/-- an integer that turns every product of nested weights into an integer -/
def Wd : Nat → Tm → Int → Prop
  | 0, _, _ => True
  | _ + 1, .ev _, _ => True
  | n + 1, .nd (.mix ws) us, m => ∀ (i : Nat) w u, ws[i]? = some w → us[i]? = some u → ∃ c, 0 < c ∧ m = w.2 * c ∧ Wd n u c
  | n + 1, .nd _ us, m => ∀ u ∈ us, Wd n u m
theorem Wd.mul : ∀ {n : Nat} {u : Tm} {m k : Int}, 0 < k → Wd n u m → Wd n u (m * k)
  | 0, _, _, _, _, _ => trivial
  | _ + 1, .ev _, _, _, _, _ => trivial
  | n + 1, .nd (.mix ws) us, m, k, k0, h => fun i w u a b => by
    obtain ⟨c, c0, e, hc⟩ := h i w u a b
    exact ⟨c * k, Int.mul_pos c0 k0, by rw [e, Int.mul_assoc], hc.mul k0⟩
  | n + 1, .nd (.delay f) us, m, k, k0, h => fun u hu => (h u hu).mul k0
  | n + 1, .nd .max us, m, k, k0, h => fun u hu => (h u hu).mul k0
  | n + 1, .nd .min us, m, k, k0, h => fun u hu => (h u hu).mul k0
  | n + 1, .nd .median us, m, k, k0, h => fun u hu => (h u hu).mul k0
theorem Wd.dvd {n : Nat} {u : Tm} {m m' : Int} (m0 : 0 < m) (m1 : 0 < m') (d : m ∣ m') (h : Wd n u m) : Wd n u m' := by
  obtain ⟨k, rfl⟩ := d
  exact h.mul (Int.pos_of_mul_pos_right m1 m0)
theorem tsz_take {us : List Tm} {i : Nat} {u : Tm} (h : us[i]? = some u) : Tm.sizes (us.take (i + 1)) = Tm.sizes (us.take i) + u.size := by
  have ap : ∀ a b : List Tm, Tm.sizes (a ++ b) = Tm.sizes a + Tm.sizes b := by
    intro a
    induction a with
    | nil => intro b; rw [List.nil_append, Tm.sizes]; omega
    | cons x a ih => intro b; rw [List.cons_append, Tm.sizes, Tm.sizes, ih]; omega
  rw [List.take_add_one, h, ap]
  show _ + Tm.sizes [u] = _
  rw [Tm.sizes, Tm.sizes]
  omega
theorem tm_pos : ∀ u : Tm, 1 ≤ u.size
  | .ev _ => by rw [Tm.size]; omega
  | .nd k us => by rw [Tm.size]; omega
theorem notmix {u : Tm} (h : ¬ ∃ ws us, u = .nd (.mix ws) us) : u.raw.kd.nm ≠ "mix" := by
  cases u with
  | ev s => rw [Tm.raw]; exact (by decide +kernel : ("event" : Str) ≠ "mix")
  | nd k us =>
    rw [Tm.raw]
    cases k with
    | delay f => exact (by decide +kernel : ("delay" : Str) ≠ "mix")
    | max => exact (by decide +kernel : ("max" : Str) ≠ "mix")
    | min => exact (by decide +kernel : ("min" : Str) ≠ "mix")
    | median => exact (by decide +kernel : ("median" : Str) ≠ "mix")
    | mix ws => exact absurd ⟨ws, us, rfl⟩ h
theorem tm_subs (u : Tm) : ∃ us : List Tm, u.raw.subs = us.map Tm.raw ∧ u.size = 1 + Tm.sizes us ∧ (∀ ss n, WT ss (n + 1) u → ∀ x ∈ us, WT ss n x) ∧ ((¬ ∃ ws us, u = .nd (.mix ws) us) → ∀ n m, (∀ x ∈ us, Wd n x m) → Wd (n + 1) u m) ∧ ((¬ ∃ ws us, u = .nd (.mix ws) us) → ∀ n m, Wd (n + 1) u m → ∀ x ∈ us, Wd n x m) := by
  cases u with
  | ev s => exact ⟨[], by rw [Tm.raw]; rfl, by rw [Tm.size, Tm.sizes], (fun _ _ _ x hx => by cases hx), (fun _ _ _ _ => trivial), fun _ _ _ _ x hx => by cases hx⟩
  | nd k us =>
    refine ⟨us, by rw [Tm.raw, raws_map]; rfl, by rw [Tm.size], fun ss n h => h.2, fun nx n m h => ?_, fun nx n m h => ?_⟩
    all_goals (cases k with
    | delay f => exact h
    | max => exact h
    | min => exact h
    | median => exact h
    | mix ws => exact absurd ⟨ws, us, rfl⟩ nx)
theorem size_in {us : List Tm} {i : Nat} {u : Tm} (h : us[i]? = some u) : Tm.sizes (us.take i) + u.size ≤ Tm.sizes us := by
  have ap : ∀ a b : List Tm, Tm.sizes (a ++ b) = Tm.sizes a + Tm.sizes b := by
    intro a
    induction a with
    | nil => intro b; rw [List.nil_append, Tm.sizes]; omega
    | cons x a ih => intro b; rw [List.cons_append, Tm.sizes, Tm.sizes, ih]; omega
  have h1 := ap (us.take (i + 1)) (us.drop (i + 1))
  rw [List.take_append_drop, tsz_take h] at h1
  omega
/-- the scaled value of a term, as an integer: what the program reckons -/
def IV (N : Str → Int) (U : Int) : Nat → Tm → Int → Int → Prop
  | 0, _, _, _ => False
  | _ + 1, .ev s, S, m => m = N s * S
  | n + 1, .nd (.delay f) us, S, m => ∃ u x, us = [u] ∧ IV N U n u S x ∧ m = x + U / f.2 * S * f.1
  | n + 1, .nd (.mix ws) us, S, m => ∃ xs : List Int, xs.length = us.length ∧ (∀ (i : Nat) w u x, ws[i]? = some w → us[i]? = some u → xs[i]? = some x → ∃ y, IV N U n u (S / w.2) y ∧ x = w.1 * y) ∧ m = xs.sum
  | n + 1, .nd .max us, S, m => ∃ xs ys : List Int, xs.length = us.length ∧ (∀ (i : Nat) u x, us[i]? = some u → xs[i]? = some x → IV N U n u S x) ∧ ys.Perm xs ∧ ys.Pairwise (· ≤ ·) ∧ ys[ys.length - 1]? = some m
  | n + 1, .nd .min us, S, m => ∃ xs ys : List Int, xs.length = us.length ∧ (∀ (i : Nat) u x, us[i]? = some u → xs[i]? = some x → IV N U n u S x) ∧ ys.Perm xs ∧ ys.Pairwise (· ≤ ·) ∧ ys[0]? = some m
  | n + 1, .nd .median us, S, m => ∃ xs ys : List Int, xs.length = us.length ∧ (∀ (i : Nat) u x, us[i]? = some u → xs[i]? = some x → IV N U n u S x) ∧ ys.Perm xs ∧ ys.Pairwise (· ≤ ·) ∧ ys[1]? = some m
theorem sum_lt {D : Nat} : ∀ {xs : List Int}, (∀ x ∈ xs, x.natAbs < 2 ^ D) → xs.sum.natAbs ≤ xs.length * 2 ^ D
  | [], _ => by simp
  | x :: xs, h => by
    have h1 := h x List.mem_cons_self
    have h2 := sum_lt (xs := xs) fun y hy => h y (List.mem_cons_of_mem _ hy)
    rw [List.sum_cons, List.length_cons, Nat.add_mul, Nat.one_mul]
    omega
theorem pow_up {x : Int} {A B : Nat} (h : x.natAbs < 2 ^ A) (l : A ≤ B) : x.natAbs < 2 ^ B := Nat.lt_of_lt_of_le h (Nat.pow_le_pow_right (by decide) l)
/-- the amounts of all delays in a term, from the outside in -/
def dls : Nat → Tm → List QQ
  | 0, _ => []
  | _ + 1, .ev _ => []
  | n + 1, .nd (.delay f) us => f :: us.flatMap (dls n)
  | n + 1, .nd _ us => us.flatMap (dls n)
/-- a comprehension with two fors over lists: what the second one gives, one behind the other -/
theorem lc2_flat {K : PySem.W.Frag} {l : Addr} {xs : List V} {g : TG} {j : Nat} {wi1 : TI} {te : TE} {vs vs1 : List Nat} {σ : L2.St} {H0 : Hp} {D : Addr} {Qd : Hp → Prop} {α : Type} (F : Hp → V → α → Prop) (fs : Nat → List α) (B : Nat) (S : L2.St → Prop)
    (hl : H0 l = some (.lst xs)) (nD : H0 D = none) (hB : xs.length * B < 100000) (fB : ∀ i, i < xs.length → (fs i).length ≤ B)
    (mS : ∀ {H H' v t}, Same H H' → F H v t → F H' v t) (mP : ∀ {H : Hp} {v t ys ys'}, H D = some (.lst ys) → F H v t → F (upd H D (.lst ys')) v t)
    (hs : ∀ i x H (R : L2.St → It → Hp → Prop) (Z : Hp → Prop), xs[i]? = some x → Same H0 H → (∀ σ2 l1 zs H4, S σ2 → H l1 = none → Same H H4 → H4 l1 = some (.lst zs) → AllG (F H4) zs (fs i) → R σ2 (Itl K l1) H4) → g x (wipe σ vs) H fun σ2 H2 => wipe σ2 vs = wipe σ vs ∧ tYes σ2 H2 fun b H3 => if b = true then wi1 σ2 H3 (R σ2) else Z H3)
    (hw : ∀ σ2 y, S σ2 → wipe ((wipe σ2 vs1).set j (some y)) vs1 = wipe σ2 vs1) (hte : ∀ σ2 y H5 (R : VK), S σ2 → R y H5 → te ((wipe σ2 vs1).set j (some y)) H5 R)
    (fin : ∀ H ys, Same H0 H → H D = some (.lst ys) → AllG (F H) ys ((List.range xs.length).flatMap fs) → Qd H) :
    ∃ W : Nat → Nat → Hp → Prop, (∃ m, W 0 m (upd H0 D (.lst []))) ∧ ∀ i m H, W i m H →
      ((Itl K l).stop i H ∧ Qd H) ∨ ((Itl K l).go i H ∧ ∃ Nx : Hp → Prop, (∀ H', Nx H' → ∃ m', m' < m ∧ W (i + 1) m' H') ∧ ∀ x H', (Itl K l).yld i H x H' → g x (wipe σ vs) H' fun σ2 H2 => wipe σ2 vs = wipe σ vs ∧ tYes σ2 H2 fun b H3 =>
        if b = true then wi1 σ2 H3 fun J1 H4 => ∃ W1 : Nat → Nat → Hp → Prop, (∃ m, W1 0 m H4) ∧ ∀ j' k H, W1 j' k H →
          (J1.stop j' H ∧ Nx H) ∨ (J1.go j' H ∧ ∃ Nx1 : Hp → Prop, (∀ H', Nx1 H' → ∃ k', k' < k ∧ W1 (j' + 1) k' H') ∧ ∀ x H', J1.yld j' H x H' → gName j x (wipe σ2 vs1) H' fun σ3 H5 => wipe σ3 vs1 = wipe σ2 vs1 ∧ tYes σ3 H5 fun b H6 =>
            if b = true then te σ3 H6 fun y H7 => ∃ acc, H7 D = some (.lst acc) ∧ acc.length < sizeLine ∧ Nx1 (upd H7 D (.lst (acc ++ [y]))) else Nx1 H6)
        else Nx H3) := by
  have lD : l ≠ D := ne_of_none hl nD
  have rs : ∀ i, (List.range (i + 1)).flatMap fs = (List.range i).flatMap fs ++ fs i := fun i => by
    rw [List.range_succ, List.flatMap_append]
    show _ ++ List.flatMap fs [i] = _
    rw [List.flatMap_cons, List.flatMap_nil, List.append_nil]
  have rl : ∀ i, i ≤ xs.length → ((List.range i).flatMap fs).length ≤ i * B := fun i => by
    induction i with
    | zero => intro _; simp
    | succ i ih =>
      intro hi
      rw [rs, List.length_append, Nat.succ_mul]
      have := ih (by omega)
      have := fB i (by omega)
      omega
  have upS : ∀ {H : Hp} {ys ys' : List V}, Same H0 H → H D = some (.lst ys) → Same H0 (upd H D (.lst ys')) := fun s _ b o e => by
    rw [upd_ne (ne_of_none e nD)]; exact s _ _ e
  refine ⟨fun i m H => i + m = xs.length ∧ Same H0 H ∧ ∃ ys, H D = some (.lst ys) ∧ AllG (F H) ys ((List.range i).flatMap fs), ⟨xs.length, by omega, Same.new nD, [], upd_same, AllG.nil⟩, fun i m H hW => ?_⟩
  obtain ⟨em, s3, ys, hL, hY⟩ := hW
  by_cases hi : i < xs.length
  · refine .inr ⟨⟨xs, xs[i], SqL.of (s3 _ _ hl), List.getElem?_eq_getElem hi⟩, fun H4 => Same H0 H4 ∧ ∃ ys, H4 D = some (.lst ys) ∧ AllG (F H4) ys ((List.range (i + 1)).flatMap fs), fun H4 hN => ⟨m - 1, by omega, by omega, hN⟩, fun x H4 hy => ?_⟩
    obtain ⟨rfl, hx⟩ := hy
    have hx' := hx xs (SqL.of (s3 _ _ hl))
    refine hs i x H4 _ _ hx' s3 fun σ2 l3 zs H5 hS nl3 s5 hl3 hZ => ?_
    have l3D : l3 ≠ D := fun q => by rw [q, hL] at nl3; cases nl3
    have zl := hZ.1
    refine ⟨fun j' k H6 => j' + k = zs.length ∧ Same H0 H6 ∧ H6 l3 = some (.lst zs) ∧ ∃ ys', H6 D = some (.lst ys') ∧ AllG (F H6) zs (fs i) ∧ AllG (F H6) ys' ((List.range i).flatMap fs ++ (fs i).take j'), ⟨zs.length, by omega, s3.trans s5, hl3, ys, s5 _ _ hL, hZ, by rw [List.take_zero, List.append_nil]; exact hY.mono fun _ _ q => mS s5 q⟩, fun j' k H6 hW6 => ?_⟩
    obtain ⟨ek, s6, hl6, ys', hL6, hZ6, hY6⟩ := hW6
    by_cases hj : j' < zs.length
    · refine .inr ⟨⟨zs, zs[j'], SqL.of hl6, List.getElem?_eq_getElem hj⟩, fun H7 => Same H0 H7 ∧ H7 l3 = some (.lst zs) ∧ ∃ ys', H7 D = some (.lst ys') ∧ AllG (F H7) zs (fs i) ∧ AllG (F H7) ys' ((List.range i).flatMap fs ++ (fs i).take (j' + 1)), fun H7 hN => ⟨k - 1, by omega, by omega, hN⟩, fun y H7 hy7 => ?_⟩
      obtain ⟨rfl, hyy⟩ := hy7
      have hy' := hyy zs (SqL.of hl6)
      obtain ⟨q, hq, tq⟩ := hZ6.at hy'
      refine ⟨hw σ2 y hS, tYes_if (hte σ2 y _ _ hS ⟨ys', hL6, ?_, upS s6 hL6, ?_, ys' ++ [y], upd_same, hZ6.mono fun _ _ p => mP hL6 p, ?_⟩)⟩
      · have h1 := hY6.1
        have h2 := rl i (by omega)
        have h3 := fB i hi
        have h4 : i * B + B ≤ xs.length * B := by rw [← Nat.succ_mul]; exact Nat.mul_le_mul_right B hi
        rw [List.length_append, List.length_take] at h1
        exact szl (by omega)
      · rw [upd_ne l3D]; exact hl6
      · rw [List.take_add_one, hq, ← List.append_assoc]
        exact (hY6.mono fun _ _ p => mP hL6 p).app (AllG.one (mP hL6 tq))
    · have ej : j' = zs.length := by omega
      subst ej
      refine .inl ⟨⟨zs, SqL.of hl6, Nat.le_refl _⟩, s6, ys', hL6, ?_⟩
      rw [zl, List.take_length] at hY6
      rw [rs]
      exact hY6
  · have ei : i = xs.length := by omega
    subst ei
    exact .inl ⟨⟨xs, SqL.of (s3 _ _ hl), Nat.le_refl _⟩, fin H ys s3 hL hY⟩
/-! ### times over one unit -/
def env : List Str → List Rat → Str → Rat
  | n :: ns, q :: qs, s => if n = s then q else env ns qs s
  | _, _, _ => 0
def nxt (ns : List Str) (us : List Tm) (qs : List Rat) : List Rat := us.map (Tm.val (env ns qs))
def simN (ns : List Str) (us : List Tm) : Nat → List Rat → List Rat
  | 0, qs => qs
  | r + 1, qs => nxt ns us (simN ns us r qs)
theorem mul_den (q : Rat) : q * ((q.den : Int) : Rat) = (q.num : Rat) := by
  have e := Rat.num_divInt_den q
  rw [Rat.divInt_eq_div] at e
  have d0 : ((q.den : Nat) : Rat) ≠ 0 := by
    intro z
    have := (Rat.natCast_eq_zero_iff (a := q.den)).mp z
    have := q.den_pos
    omega
  rw [Rat.intCast_natCast] at e ⊢
  generalize ((q.den : Nat) : Rat) = d at *
  generalize (q.num : Rat) = n at *
  rw [← e, Rat.div_mul_cancel d0]
/-- the denominator divides D -/
def DvQ (D : Int) (q : Rat) : Prop := (q.den : Int) ∣ D
theorem DvQ.int {D : Int} {q : Rat} (h : DvQ D q) : q * D = ((q.num * (D / q.den) : Int) : Rat) := by
  obtain ⟨c, hc⟩ := h
  rw [hc, Int.mul_ediv_cancel_left c (den_ne q), Rat.intCast_mul, Rat.intCast_mul, ← mul_den q]
  grind
theorem DvQ.of {D m : Int} {q : Rat} (h : q * D = (m : Rat)) : DvQ D q := by
  have e : q.num * D = m * q.den := by
    apply Rat.intCast_inj.mp
    rw [Rat.intCast_mul, Rat.intCast_mul, ← mul_den q, ← h]
    grind
  refine dvd_cop (z := q.num) ⟨m, ?_⟩ ?_
  · rw [Int.mul_comm D, e, Int.mul_comm]
  · rw [Int.gcd_comm]; exact q.reduced
/-! ### the scaled value is the value -/
theorem rat_mul_pos_cancel {a b k : Rat} (k0 : 0 < k) (h : a * k ≤ b * k) : a ≤ b := Rat.le_of_mul_le_mul_right h k0
theorem sorted_last {ys : List Int} (h : ys.Pairwise (· ≤ ·)) {m : Int} (hm : ys[ys.length - 1]? = some m) : ∀ y ∈ ys, y ≤ m := by
  intro y hy
  obtain ⟨i, hi, rfl⟩ := List.getElem_of_mem hy
  have hl := (List.getElem?_eq_some_iff.mp hm).1
  have he := (List.getElem?_eq_some_iff.mp hm).2
  by_cases e : i = ys.length - 1
  · subst e; omega
  · rw [← he]
    exact List.pairwise_iff_getElem.mp h i (ys.length - 1) hi hl (by omega)
theorem sorted_first {ys : List Int} (h : ys.Pairwise (· ≤ ·)) {m : Int} (hm : ys[0]? = some m) : ∀ y ∈ ys, m ≤ y := by
  intro y hy
  obtain ⟨i, hi, rfl⟩ := List.getElem_of_mem hy
  have hl := (List.getElem?_eq_some_iff.mp hm).1
  have he := (List.getElem?_eq_some_iff.mp hm).2
  by_cases e : i = 0
  · subst e; omega
  · rw [← he]
    exact List.pairwise_iff_getElem.mp h 0 i hl hi (by omega)
theorem Sc.max {k : Rat} (k0 : 0 < k) {xs : List Int} {vs : List Rat} (h : Sc k xs vs) {m : Int} (hm : m ∈ xs) (hM : ∀ x ∈ xs, x ≤ m) : (m : Rat) = lmax vs * k := by
  obtain ⟨j, hj, e⟩ := List.getElem_of_mem hm
  obtain ⟨v, hv, ev⟩ := h.to (i := j) (x := m) (by rw [List.getElem?_eq_getElem hj, e])
  rw [lmax_eq hv fun i g hg => ?_]
  · exact ev
  · obtain ⟨x, hx, ex⟩ := h.from hg
    refine rat_mul_pos_cancel k0 ?_
    rw [← ex, ← ev]
    exact Rat.intCast_le_intCast.mpr (hM x (List.mem_of_getElem? hx))
theorem Sc.min {k : Rat} (k0 : 0 < k) {xs : List Int} {vs : List Rat} (h : Sc k xs vs) {m : Int} (hm : m ∈ xs) (hM : ∀ x ∈ xs, m ≤ x) : (m : Rat) = lmin vs * k := by
  obtain ⟨j, hj, e⟩ := List.getElem_of_mem hm
  obtain ⟨v, hv, ev⟩ := h.to (i := j) (x := m) (by rw [List.getElem?_eq_getElem hj, e])
  rw [lmin_eq hv fun i g hg => ?_]
  · exact ev
  · obtain ⟨x, hx, ex⟩ := h.from hg
    refine rat_mul_pos_cancel k0 ?_
    rw [← ex, ← ev]
    exact Rat.intCast_le_intCast.mpr (hM x (List.mem_of_getElem? hx))
theorem perm_sum {xs ys : List Int} (h : xs.Perm ys) : xs.sum = ys.sum := by
  induction h with
  | nil => rfl
  | cons x _ ih => rw [List.sum_cons, List.sum_cons, ih]
  | swap x y l => rw [List.sum_cons, List.sum_cons, List.sum_cons, List.sum_cons]; omega
  | trans _ _ h1 h2 => rw [h1, h2]
theorem Sc.med {k : Rat} (k0 : 0 < k) {xs ys : List Int} {vs : List Rat} (h : Sc k xs vs) (l3 : xs.length = 3) (pm : ys.Perm xs) (pw : ys.Pairwise (· ≤ ·)) {m : Int} (hm : ys[1]? = some m) : (m : Rat) = lmed vs * k := by
  have yl : ys.length = 3 := by rw [pm.length_eq, l3]
  have vl : vs.length = 3 := by rw [← h.1, l3]
  obtain ⟨p, q, r, rfl⟩ : ∃ p q r, ys = [p, q, r] := match ys, yl with | [p, q, r], _ => ⟨p, q, r, rfl⟩
  obtain ⟨a, b, c, rfl⟩ : ∃ a b c, xs = [a, b, c] := match xs, l3 with | [p, q, r], _ => ⟨p, q, r, rfl⟩
  obtain ⟨x, y, z, rfl⟩ : ∃ x y z, vs = [x, y, z] := match vs, vl with | [p, q, r], _ => ⟨p, q, r, rfl⟩
  cases hm
  have hp := h.min k0 (pm.mem_iff.mp List.mem_cons_self) fun x hx => sorted_first pw rfl x (pm.mem_iff.mpr hx)
  have hr := h.max k0 (pm.mem_iff.mp (show r ∈ [p, m, r] by simp)) fun x hx => sorted_last pw rfl x (pm.mem_iff.mpr hx)
  have hs := perm_sum pm
  have ea := h.2 0 a x rfl rfl
  have eb := h.2 1 b y rfl rfl
  have ec := h.2 2 c z rfl rfl
  have hs : p + m + r = a + b + c := by simpa [Int.add_assoc] using hs
  have hq : (p : Rat) + (m : Rat) + (r : Rat) = (a : Rat) + (b : Rat) + (c : Rat) := by
    rw [← Rat.intCast_add, ← Rat.intCast_add, ← Rat.intCast_add, ← Rat.intCast_add, hs]
  have e3 := med3_sum x y z
  show (m : Rat) = med3 x y z * k
  rw [← e3]
  generalize lmin [x, y, z] = u at *
  generalize lmax [x, y, z] = v at *
  grind
theorem lmix_sc {U c : Rat} {xs : List Int} {ws : List QQ} {vs : List Rat} (l1 : ws.length = vs.length) (l2 : xs.length = vs.length) (h : ∀ (i : Nat) w v x, ws[i]? = some w → vs[i]? = some v → xs[i]? = some x → (x : Rat) = toR w * v * c) : ((xs.sum : Int) : Rat) = lmix (ws.map toR) vs * c := by
  induction vs generalizing xs ws with
  | nil =>
    have e1 : xs = [] := List.length_eq_zero_iff.mp l2
    subst e1
    cases ws <;> (show ((0 : Int) : Rat) = 0 * c; rw [Rat.zero_mul]; rfl)
  | cons v vs ih =>
    cases xs with
    | nil => cases l2
    | cons x xs =>
      cases ws with
      | nil => cases l1
      | cons w ws =>
        have h0 := h 0 w v x rfl rfl rfl
        have h1 := ih (by simpa using l1) (by simpa using l2) fun i w v x a b d => h (i + 1) w v x a b d
        rw [List.sum_cons, Rat.intCast_add, h0, h1]
        show _ = (toR w * v + lmix (ws.map toR) vs) * c
        grind
theorem toR_mul {f : QQ} (h : 0 < f.2) : toR f * (f.2 : Rat) = (f.1 : Rat) := by
  unfold toR
  rw [Rat.divInt_eq_div]
  have : (f.2 : Rat) ≠ 0 := fun z => by
    have := Rat.intCast_inj.mp (show (f.2 : Rat) = ((0 : Int) : Rat) by rw [z]; rfl)
    omega
  rw [Rat.div_mul_cancel this]
theorem ipos {i : Int} (h : 0 < i) : (0 : Rat) < (i : Rat) := Rat.intCast_pos.mpr h
theorem IV.val {N : Str → Int} {U : Int} {ss : List Str} {ρ : Str → Rat} (U0 : 0 < U) (hN : ∀ s ∈ ss, (N s : Rat) = ρ s * U) : ∀ {n : Nat} {u : Tm} {S m : Int}, IV N U n u S m → WT ss n u → Wd n u S → 0 < S → (∀ f ∈ dls n u, f.2 ∣ U) → (m : Rat) = u.val ρ * (U * S)
  | 0, _, _, _, h, _, _, _, _ => h.elim
  | n + 1, .ev s, S, m, h, hw, _, S0, _ => by
    have e : m = N s * S := h
    rw [e, Rat.intCast_mul, hN s hw, Tm.val, Rat.mul_assoc]
  | n + 1, .nd k us, S, m, h, hw, hS, S0, hd => by
    have kp : (0 : Rat) < (U : Rat) * (S : Rat) := Rat.mul_pos (ipos U0) (ipos S0)
    rw [Tm.val, vals_map]
    have dl : ∀ u ∈ us, ∀ f ∈ dls n u, f.2 ∣ U := fun u hu f hf => hd f (by
      cases k with
      | delay g => rw [dls]; exact List.mem_cons_of_mem _ (List.mem_flatMap.mpr ⟨u, hu, hf⟩)
      | max => rw [dls]; exact List.mem_flatMap.mpr ⟨u, hu, hf⟩; intro g z; cases z
      | min => rw [dls]; exact List.mem_flatMap.mpr ⟨u, hu, hf⟩; intro g z; cases z
      | median => rw [dls]; exact List.mem_flatMap.mpr ⟨u, hu, hf⟩; intro g z; cases z
      | mix ws => rw [dls]; exact List.mem_flatMap.mpr ⟨u, hu, hf⟩; intro g z; cases z)
    have sc : ∀ {xs : List Int}, xs.length = us.length → (∀ u ∈ us, Wd n u S) → (∀ (i : Nat) u x, us[i]? = some u → xs[i]? = some x → IV N U n u S x) → Sc ((U : Rat) * (S : Rat)) xs (us.map (Tm.val ρ)) := fun {xs} l hS' hx => ⟨by rw [l, List.length_map], fun i x v a b => by
      rw [List.getElem?_map] at b
      cases e : us[i]? with
      | none => rw [e] at b; cases b
      | some u =>
        rw [e] at b
        cases b
        have hu := List.mem_of_getElem? e
        exact IV.val U0 hN (hx i u x e a) (hw.2 u hu) (hS' u hu) S0 (dl u hu)⟩
    cases k with
    | delay f =>
      obtain ⟨u, x, rfl, hx, rfl⟩ := h
      have hu : u ∈ [u] := List.mem_cons_self
      have e1 := IV.val U0 hN hx (hw.2 u hu) (hS u hu) S0 (dl u hu)
      obtain ⟨c, hc⟩ := hd f (by rw [dls]; exact List.mem_cons_self)
      have f0 : 0 < f.2 := hw.1.2.2.1
      have e2 := toR_mul f0
      rw [hc, Int.mul_ediv_cancel_left c (by omega), Rat.intCast_add, Rat.intCast_mul, Rat.intCast_mul, e1, ← e2, hc, Rat.intCast_mul]
      show _ = (lmax [u.val ρ] + toR f) * _
      show _ = (u.val ρ + toR f) * _
      grind
    | max =>
      obtain ⟨xs, ys, xl, hx, pm, pw, hm⟩ := h
      exact (sc xl hS hx).max kp (pm.mem_iff.mp (List.mem_of_getElem? hm)) fun x hx => sorted_last pw hm x (pm.mem_iff.mpr hx)
    | min =>
      obtain ⟨xs, ys, xl, hx, pm, pw, hm⟩ := h
      exact (sc xl hS hx).min kp (pm.mem_iff.mp (List.mem_of_getElem? hm)) fun x hx => sorted_first pw hm x (pm.mem_iff.mpr hx)
    | median =>
      obtain ⟨xs, ys, xl, hx, pm, pw, hm⟩ := h
      exact (sc xl hS hx).med kp (by rw [xl]; exact hw.1) pm pw hm
    | mix ws =>
      obtain ⟨xs, xl, hx, rfl⟩ := h
      have wl : ws.length = us.length := hw.1.2.1
      have n0 : ws ≠ [] := fun e => by have h1 := hw.1.1; rw [← wl, e] at h1; exact absurd h1.1 (by decide)
      refine lmix_sc (U := 0) (by rw [List.length_map, wl]) (by rw [List.length_map, xl]) fun i w v x a b d => ?_
      rw [List.getElem?_map] at b
      cases e : us[i]? with
      | none => rw [e] at b; cases b
      | some u =>
        rw [e] at b
        cases b
        have hu := List.mem_of_getElem? e
        obtain ⟨y, hy, rfl⟩ := hx i w u x a e d
        obtain ⟨c, c0, hc, hWc⟩ := hS i w u a e
        have w0 : 0 < w.2 := (hw.1.2.2.low n0 w (List.mem_of_getElem? a)).1.1
        have eq : S / w.2 = c := by rw [hc]; exact Int.mul_ediv_cancel_left c (by omega)
        rw [eq] at hy
        have e1 := IV.val U0 hN hy (hw.2 u hu) hWc c0 (dl u hu)
        have e2 := toR_mul w0
        rw [Rat.intCast_mul, e1, ← e2, hc, Rat.intCast_mul]
        grind
theorem tsz_len : ∀ us : List Tm, us.length ≤ Tm.sizes us
  | [] => Nat.zero_le _
  | u :: us => by
    have h1 := tsz_len us
    have h2 := tm_pos u
    rw [List.length_cons, Tm.sizes]
    omega
theorem flat_len {f : Tm → List QQ} : ∀ {us : List Tm}, (∀ u ∈ us, (f u).length ≤ u.size) → (us.flatMap f).length ≤ Tm.sizes us
  | [], _ => Nat.zero_le _
  | u :: us, h => by
    have h1 := flat_len (f := f) (us := us) fun x hx => h x (List.mem_cons_of_mem _ hx)
    have h2 := h u List.mem_cons_self
    rw [List.flatMap_cons, List.length_append, Tm.sizes]
    omega
theorem dls_len : ∀ (n : Nat) (u : Tm), (dls n u).length ≤ u.size
  | 0, _ => Nat.zero_le _
  | _ + 1, .ev _ => Nat.zero_le _
  | n + 1, .nd k us => by
    have h := flat_len (f := dls n) (us := us) fun x _ => dls_len n x
    rw [tm_size]
    cases k with
    | delay g => rw [dls, List.length_cons]; omega
    | max => rw [dls]; omega; intro g z; cases z
    | min => rw [dls]; omega; intro g z; cases z
    | median => rw [dls]; omega; intro g z; cases z
    | mix ws => rw [dls]; omega; intro g z; cases z
def optF {α β : Type} (f : α → List β) : Option α → List β
  | some u => f u
  | none => []
theorem range_map {α β : Type} (f : α → List β) : ∀ us : List α, (List.range us.length).flatMap (fun i => optF f us[i]?) = us.flatMap f := by
  intro us
  have key : ∀ n, n ≤ us.length → (List.range n).flatMap (fun i => optF f us[i]?) = (us.take n).flatMap f := fun n => by
    induction n with
    | zero => intro _; rfl
    | succ n ih =>
      intro hn
      have hu : us[n]? = some us[n] := List.getElem?_eq_getElem hn
      rw [List.range_succ, List.flatMap_append, ih (by omega), List.take_add_one, hu, List.flatMap_append]
      congr 1
      show List.flatMap (fun i => optF f us[i]?) [n] = List.flatMap f [us[n]]
      rw [List.flatMap_cons, List.flatMap_nil, List.flatMap_cons, List.flatMap_nil, hu]
      rfl
  rw [key us.length (Nat.le_refl _), List.take_length]
theorem tm_subsD (u : Tm) : u.raw.subs = u.subs.map Tm.raw ∧ u.size = 1 + Tm.sizes u.subs ∧ (∀ ss n, WT ss (n + 1) u → ∀ x ∈ u.subs, WT ss n x) ∧ ((∃ f, u = .nd (.delay f) u.subs) ∨ (u.raw.kd.nm ≠ "delay" ∧ ∀ n, dls (n + 1) u = u.subs.flatMap (dls n))) := by
  cases u with
  | ev s => exact ⟨by rw [Tm.raw]; rfl, by rw [Tm.size]; rfl, (fun _ _ _ x hx => by cases hx), .inr ⟨by rw [Tm.raw]; exact (by decide +kernel : ("event" : Str) ≠ "delay"), fun _ => rfl⟩⟩
  | nd k us =>
    refine ⟨by rw [Tm.raw, raws_map]; rfl, by rw [Tm.size]; rfl, fun ss n h => h.2, ?_⟩
    rw [Tm.raw]
    cases k with
    | delay f => exact .inl ⟨f, rfl⟩
    | max => exact .inr ⟨(by decide +kernel : ("max" : Str) ≠ "delay"), fun _ => rfl⟩
    | min => exact .inr ⟨(by decide +kernel : ("min" : Str) ≠ "delay"), fun _ => rfl⟩
    | median => exact .inr ⟨(by decide +kernel : ("median" : Str) ≠ "delay"), fun _ => rfl⟩
    | mix ws => exact .inr ⟨(by decide +kernel : ("mix" : Str) ≠ "delay"), fun _ => rfl⟩
/-! ### how far values go -/
theorem lmax_in {P : Rat → Prop} : ∀ {xs : List Rat}, xs ≠ [] → (∀ x ∈ xs, P x) → P (lmax xs)
  | [], h, _ => absurd rfl h
  | [x], _, h => h x List.mem_cons_self
  | x :: y :: xs, _, h => by
    have i := lmax_in (xs := y :: xs) (by simp) fun z hz => h z (List.mem_cons_of_mem _ hz)
    show P (max x (lmax (y :: xs)))
    rw [Rat.max_def]
    split
    · exact i
    · exact h x List.mem_cons_self
theorem lmin_in {P : Rat → Prop} : ∀ {xs : List Rat}, xs ≠ [] → (∀ x ∈ xs, P x) → P (lmin xs)
  | [], h, _ => absurd rfl h
  | [x], _, h => h x List.mem_cons_self
  | x :: y :: xs, _, h => by
    have i := lmin_in (xs := y :: xs) (by simp) fun z hz => h z (List.mem_cons_of_mem _ hz)
    show P (min x (lmin (y :: xs)))
    rw [Rat.min_def]
    split
    · exact h x List.mem_cons_self
    · exact i
theorem lmed_in {P : Rat → Prop} {xs : List Rat} (l : xs.length = 3) (h : ∀ x ∈ xs, P x) : P (lmed xs) := by
  match xs, l with
  | [x, y, z], _ =>
    show P (med3 x y z)
    rcases med3_in x y z with e | e | e <;> rw [e] <;> exact h _ (by simp)
theorem lmix_le {hi : Rat} : ∀ {ws xs : List Rat}, ws.length = xs.length → (∀ w ∈ ws, 0 ≤ w) → (∀ x ∈ xs, x ≤ hi) → lmix ws xs ≤ ws.sum * hi
  | [], [], _, _, _ => by show (0 : Rat) ≤ 0 * hi; rw [Rat.zero_mul]; exact Rat.le_refl
  | [], _ :: _, h, _, _ => by cases h
  | _ :: _, [], h, _, _ => by cases h
  | w :: ws, x :: xs, l, h, k => by
    have i := lmix_le (ws := ws) (xs := xs) (by simpa using l) (fun v hv => h v (List.mem_cons_of_mem _ hv)) fun v hv => k v (List.mem_cons_of_mem _ hv)
    have j := Rat.mul_le_mul_of_nonneg_left (k x List.mem_cons_self) (h w List.mem_cons_self)
    show w * x + lmix ws xs ≤ _
    rw [List.sum_cons]
    grind
theorem lmix_ge {lo : Rat} : ∀ {ws xs : List Rat}, ws.length = xs.length → (∀ w ∈ ws, 0 ≤ w) → (∀ x ∈ xs, lo ≤ x) → ws.sum * lo ≤ lmix ws xs
  | [], [], _, _, _ => by show (0 : Rat) * lo ≤ 0; rw [Rat.zero_mul]; exact Rat.le_refl
  | [], _ :: _, h, _, _ => by cases h
  | _ :: _, [], h, _, _ => by cases h
  | w :: ws, x :: xs, l, h, k => by
    have i := lmix_ge (ws := ws) (xs := xs) (by simpa using l) (fun v hv => h v (List.mem_cons_of_mem _ hv)) fun v hv => k v (List.mem_cons_of_mem _ hv)
    have j := Rat.mul_le_mul_of_nonneg_left (k x List.mem_cons_self) (h w List.mem_cons_self)
    show _ ≤ w * x + lmix ws xs
    rw [List.sum_cons]
    grind
theorem DlS.small {f : QQ} (h : DlS f) : toR f ≤ 32 ∧ -32 ≤ toR f := by
  have e := toR_mul h.2.1
  have p := ipos h.2.1
  have h1 : (f.1 : Rat) ≤ ((32 * f.2 : Int) : Rat) := Rat.intCast_le_intCast.mpr (by have := h.1; have := h.2.1; omega)
  have h2 : ((-32 * f.2 : Int) : Rat) ≤ (f.1 : Rat) := Rat.intCast_le_intCast.mpr (by have := h.1; have := h.2.1; omega)
  rw [Rat.intCast_mul, ← e] at h1 h2
  exact ⟨rat_mul_pos_cancel p h1, rat_mul_pos_cancel p h2⟩
def Btw (B x : Rat) : Prop := -B ≤ x ∧ x ≤ B
theorem Btw.up {A B x : Rat} (h : Btw A x) (l : A ≤ B) : Btw B x := ⟨by have := h.1; grind, by have := h.2; grind⟩
theorem WT.btw {ss : List Str} {ρ : Str → Rat} {M : Rat} (hs : ∀ s ∈ ss, Btw M (ρ s)) : ∀ {n : Nat} {u : Tm}, WT ss n u → Btw (M + 32 * (n : Rat)) (u.val ρ)
  | 0, _, h => h.elim
  | n + 1, .ev s, h => by
    rw [Tm.val]
    refine (hs s h).up ?_
    have : (0 : Rat) ≤ ((n + 1 : Nat) : Rat) := Rat.natCast_nonneg
    grind
  | n + 1, .nd k us, h => by
    have en : ((n + 1 : Nat) : Rat) = (n : Rat) + 1 := by rw [Rat.natCast_add]; rfl
    rw [Tm.val, vals_map, en]
    have hv : ∀ x ∈ us.map (Tm.val ρ), Btw (M + 32 * (n : Rat)) x := fun x hx => by
      obtain ⟨u, hu, rfl⟩ := List.mem_map.mp hx
      exact WT.btw hs (h.2 u hu)
    have ne : ∀ {m : Nat}, us.length = m → 1 ≤ m → us.map (Tm.val ρ) ≠ [] := fun e h1 z => by
      rw [List.map_eq_nil_iff] at z
      rw [z] at e
      have : 0 = _ := e
      omega
    have up : M + 32 * (n : Rat) ≤ M + 32 * ((n : Rat) + 1) := by grind
    cases k with
    | delay f =>
      have i := lmax_in (P := Btw (M + 32 * (n : Rat))) (ne h.1.1 (by decide)) hv
      have d := h.1.2.small
      refine ⟨?_, ?_⟩
      · show _ ≤ lmax (us.map (Tm.val ρ)) + toR f
        have := i.1
        grind
      · show lmax (us.map (Tm.val ρ)) + toR f ≤ _
        have := i.2
        grind
    | max => exact (lmax_in (P := Btw (M + 32 * (n : Rat))) (ne rfl h.1.1) hv).up up
    | min => exact (lmin_in (P := Btw (M + 32 * (n : Rat))) (ne rfl h.1.1) hv).up up
    | median => exact (lmed_in (P := Btw (M + 32 * (n : Rat))) (by rw [List.length_map]; exact h.1) hv).up up
    | mix ws =>
      have n0 : ws ≠ [] := fun e => by have h1 := h.1.1; have h2 := h.1.2.1; rw [e] at h2; rw [← h2] at h1; exact absurd h1.1 (by decide)
      obtain ⟨w0, w1⟩ := h.1.2.2.nice n0
      have l : (ws.map toR).length = (us.map (Tm.val ρ)).length := by rw [List.length_map, List.length_map]; exact h.1.2.1
      have a := lmix_le l w0 fun x hx => (hv x hx).2
      have b := lmix_ge l w0 fun x hx => (hv x hx).1
      rw [w1, Rat.one_mul] at a b
      have i : Btw (M + 32 * (n : Rat)) (lmix (ws.map toR) (us.map (Tm.val ρ))) := ⟨b, a⟩
      exact i.up up
/-- what a run of rounds starts from -/
structure SimIn (ns : List Str) (us : List Tm) (qs : List Rat) (D S : Int) (A B M : Nat) : Prop where
  nd : ns.Nodup
  ul : us.length = ns.length
  l6 : ns.length ≤ 6
  wt : ∀ u ∈ us, WT ns 12 u
  sz : ∀ u ∈ us, u.size ≤ 40
  ql : qs.length = ns.length
  dq : ∀ q ∈ qs, DvQ D q
  dl : ∀ u ∈ us, ∀ f ∈ dls 12 u, f.2 ∣ D
  D0 : 0 < D
  DB : D.natAbs < 2 ^ A
  wd : ∀ u ∈ us, Wd 12 u S
  S0 : 0 < S
  SB : S.natAbs < 2 ^ B
  A0 : 0 < A
  B0 : 0 < B
  mq : ∀ q ∈ qs, Btw ((2 ^ M : Nat) : Rat) q
def FrL (K : PySem.W.Frag) (H : Hp) (xs : List V) (qs : List Rat) : Prop := AllG (fun v q => Fr K H v (ofR q).1 (ofR q).2) xs qs
theorem FrL.same {K : PySem.W.Frag} {H H' : Hp} {xs : List V} {qs : List Rat} (h : FrL K H xs qs) (s : Same H H') : FrL K H' xs qs := h.mono fun _ _ z => z.same s
theorem FrL.kp {K : PySem.W.Frag} {H H' : Hp} {r : Addr} {xs : List V} {qs : List Rat} (h : FrL K H xs qs) (R : Rg H r) (k : Kp r H H') : FrL K H' xs qs := h.mono fun _ _ z => z.kp R k
theorem FRs.frl {K : PySem.W.Frag} {H : Hp} {xs : List V} {qs : List Rat} {B : Nat} (h : FRs K H xs qs B) : FrL K H xs qs := ⟨h.len, fun _ _ _ a b => (h.at a b).fr⟩
/-- what a run of r rounds wants of rows and times, and gives -/
def SimQ (K : PySem.W.Frag) (H : Hp) (rs : List Row) (t : Addr) (r : Nat) (Q : VK) : Prop := ∃ (xs : List V) (us : List Tm) (qs : List Rat) (D S : Int) (A B M : Nat), rs.map Prod.snd = us.map Tm.raw ∧ SimIn (rs.map Prod.fst) us qs D S A B M ∧ (SqT K H t xs ∨ SqL K H t xs) ∧ FrL K H xs qs ∧ r ≤ 100 ∧ A + (r + 1) * B + M + 16 ≤ 7900 ∧
  ∀ l zs H', Same H H' → H l = none → H' l = some (.lst zs) → FrL K H' zs (simN (rs.map Prod.fst) us r qs) → (∀ q ∈ simN (rs.map Prod.fst) us r qs, DvQ (D * S ^ r) q ∧ Btw (((2 ^ M : Nat) : Rat) + 384 * (r : Rat)) q) → Q (.ref l) H'
def spTimes (K : PySem.W.Frag) : Sp := fun vs H Q _ => ∃ (pl t : Addr) (ys : List V) (rs : List Row) (r : Nat), vs = [.ref pl, .ref t, .int ((r : Nat) : Int)] ∧ H pl = some (.lst ys) ∧ AllG (RowAt K H 12) ys rs ∧ SimQ K H rs t r Q
/-- simulate, where nothing is raised -/
def spSim (K : PySem.W.Frag) : Sp := fun vs H Q _ => ∃ (x C t : Addr) (rs : List Row) (r : Nat), vs = [.ref x, .ref t, .int ((r : Nat) : Int)] ∧ Cls K C ∧ NoAttr K C "pairs" ∧ SysAt K H C x 12 rs ∧ SimQ K H rs t r Q
/-! ### what drawn rows are good for -/
def LW : Int := 5354228880
def LD : Int := 72201776446800
theorem LW_dvd : ∀ d : Nat, d < 25 → 0 < d → (d : Int) ∣ LW := by decide +kernel
theorem LD_dvd : ∀ d : Nat, d < 32 → 0 < d → (d : Int) ∣ LD := by decide +kernel
theorem LW_dv {d : Int} (h : 0 < d) (l : d ≤ 24) : d ∣ LW := by
  have z := LW_dvd d.toNat (by omega) (by omega)
  rw [show ((d.toNat : Nat) : Int) = d by omega] at z
  exact z
theorem LD_dv {d : Int} (h : 0 < d) (l : d < 32) : d ∣ LD := by
  have z := LD_dvd d.toNat (by omega) (by omega)
  rw [show ((d.toNat : Nat) : Int) = d by omega] at z
  exact z
theorem ShW.den {ws : List QQ} (h : ShW ws) (n0 : ws ≠ []) (l6 : ws.length ≤ 6) : ∀ w ∈ ws, w.2 ∣ LW := by
  obtain ⟨is, hi, hl, rfl⟩ := h
  have ne : is ≠ [] := fun z => n0 (by rw [z]; rfl)
  have S0 := ints_pos hi ne
  have S1 := isum_le hi
  rw [List.length_map] at l6
  intro w hw
  obtain ⟨i, hm, rfl⟩ := List.mem_map.mp hw
  have d : (red i is.sum).2 ∣ is.sum := by
    have e := red_eq (n := i) (d := is.sum) (by omega)
    have g := red_gcd (n := i) (d := is.sum) (by omega)
    refine dvd_cop (z := (red i is.sum).1) ⟨i, ?_⟩ (by rw [Int.gcd_comm]; exact g)
    rw [Int.mul_comm, e, Int.mul_comm]
  exact Int.dvd_trans d (LW_dv S0 (by omega))
theorem LW0 : 0 < LW := by decide
theorem WT.wd {ss : List Str} : ∀ {n : Nat} {m : Nat} {u : Tm}, WT ss (n + 1) u → Wd m u (LW ^ n)
  | _, 0, _, _ => trivial
  | _, _ + 1, .ev _, _ => trivial
  | n, m + 1, .nd k us, h => by
    cases n with
    | zero =>
      have e : us = [] := by
        cases us with
        | nil => rfl
        | cons u us => exact (h.2 u List.mem_cons_self).elim
      subst e
      cases k with
      | mix ws => intro i w u _ b; cases b
      | delay f => intro u hu; cases hu
      | max => intro u hu; cases hu
      | min => intro u hu; cases hu
      | median => intro u hu; cases hu
    | succ n =>
      have ih : ∀ u ∈ us, Wd m u (LW ^ n) := fun u hu => WT.wd (h.2 u hu)
      have up : ∀ u ∈ us, Wd m u (LW ^ (n + 1)) := fun u hu => by rw [Int.pow_succ]; exact (ih u hu).mul LW0
      cases k with
      | mix ws =>
        intro i w u a b
        have n0 : ws ≠ [] := fun e => by have h1 := h.1.1; have h2 := h.1.2.1; rw [e] at h2; rw [← h2] at h1; exact absurd h1.1 (by decide)
        have wm := List.mem_of_getElem? a
        obtain ⟨c, hc⟩ := h.1.2.2.den n0 (by have := h.1.1; have := h.1.2.1; omega) w wm
        have w0 := (h.1.2.2.low n0 w wm).1.1
        have c0 : 0 < c := Int.pos_of_mul_pos_right (by rw [← hc]; exact LW0) w0
        refine ⟨LW ^ n * c, Int.mul_pos (Int.pow_pos LW0) c0, ?_, (ih u (List.mem_of_getElem? b)).mul c0⟩
        rw [Int.pow_succ]
        generalize LW ^ n = z
        rw [hc]
        exact Int.mul_left_comm z w.2 c
      | delay f => exact up
      | max => exact up
      | min => exact up
      | median => exact up
theorem WT.dld {ss : List Str} {n m : Nat} {u : Tm} (h : WT ss n u) : ∀ f ∈ dls m u, f.2 ∣ LD := by
  have key : ∀ (m n : Nat) (u : Tm), WT ss n u → ∀ f ∈ dls m u, f.2 ∣ LD := fun m => by
    induction m with
    | zero => intro n u _ f hf; cases hf
    | succ m ih =>
      intro n u h f hf
      cases u with
      | ev s => cases hf
      | nd k us =>
        cases n with
        | zero => exact h.elim
        | succ n =>
          have sub : f ∈ us.flatMap (dls m) → f.2 ∣ LD := fun z => by
            obtain ⟨x, hx, hf⟩ := List.mem_flatMap.mp z
            exact ih n x (h.2 x hx) f hf
          cases k with
          | delay g =>
            rw [dls] at hf
            rcases List.mem_cons.mp hf with e | z
            · rw [e]; exact LD_dv h.1.2.2.1 h.1.2.2.2.1
            · exact sub z
          | max => rw [dls] at hf; exact sub hf; intro g z; cases z
          | min => rw [dls] at hf; exact sub hf; intro g z; cases z
          | median => rw [dls] at hf; exact sub hf; intro g z; cases z
          | mix ws => rw [dls] at hf; exact sub hf; intro g z; cases z
  exact key m n u h
def dprod : List Rat → Int
  | [] => 1
  | q :: qs => q.den * dprod qs
theorem dprod_pos : ∀ qs : List Rat, 0 < dprod qs
  | [] => by decide
  | q :: qs => Int.mul_pos (by have := q.den_pos; omega) (dprod_pos qs)
theorem dprod_dvd : ∀ {qs : List Rat}, ∀ q ∈ qs, DvQ (dprod qs) q
  | [], q, h => by cases h
  | x :: qs, q, h => by
    rcases List.mem_cons.mp h with e | z
    · rw [e]; exact Int.dvd_mul_right _ _
    · exact Int.dvd_trans (dprod_dvd q z) (Int.dvd_mul_left _ _)
theorem dprod_bd {B : Nat} : ∀ {qs : List Rat}, (∀ q ∈ qs, Bt q B) → (dprod qs).natAbs < 2 ^ (B * qs.length + 1)
  | [], _ => by rw [List.length_nil, Nat.mul_zero]; decide
  | q :: qs, h => by
    have h1 := (h q List.mem_cons_self).2
    have h2 := dprod_bd fun x hx => h x (List.mem_cons_of_mem _ hx)
    show ((q.den : Int) * dprod qs).natAbs < _
    rw [List.length_cons, Int.natAbs_mul, show B * (qs.length + 1) + 1 = B + (B * qs.length + 1) by rw [Nat.mul_succ]; omega, Nat.pow_add]
    exact Nat.mul_lt_mul'' h1 h2
theorem Bt.btw {q : Rat} {B : Nat} (h : Bt q B) : Btw ((2 ^ B : Nat) : Rat) q := by
  have e := mul_den q
  have d0 : (0 : Int) < (q.den : Int) := by have := q.den_pos; omega
  have p := ipos d0
  have hn : q.num.natAbs < 2 ^ B := h.1
  have m1 : ((2 ^ B : Nat) : Int) * 1 ≤ ((2 ^ B : Nat) : Int) * (q.den : Int) := Int.mul_le_mul_of_nonneg_left (by omega) (by omega)
  refine ⟨rat_mul_pos_cancel p ?_, rat_mul_pos_cancel p ?_⟩
  · rw [e, ← Rat.intCast_natCast (2 ^ B), ← Rat.intCast_neg, ← Rat.intCast_mul]
    refine Rat.intCast_le_intCast.mpr ?_
    rw [Int.neg_mul]
    generalize ((2 ^ B : Nat) : Int) * (q.den : Int) = z at *
    omega
  · rw [e, ← Rat.intCast_natCast (2 ^ B), ← Rat.intCast_mul]
    refine Rat.intCast_le_intCast.mpr ?_
    generalize ((2 ^ B : Nat) : Int) * (q.den : Int) = z at *
    omega
theorem Drw.tms {rs : List Row} (h : Drw rs) : ∃ us : List Tm, rs.map Prod.snd = us.map Tm.raw ∧ ∀ u ∈ us, WT (rs.map Prod.fst) 4 u := by
  obtain ⟨us, e, hu⟩ := ex_raws (ss := rs.map Prod.fst) (n := 4) (ts := rs.map Prod.snd) fun t ht => by
    obtain ⟨r, hr, rfl⟩ := List.mem_map.mp ht
    exact WR.tm (h.wr r hr)
  exact ⟨us, e.symm, hu⟩
/-- drawn rows and times of some size -/
theorem simIn_of {rs : List Row} {us : List Tm} {qs : List Rat} {D : Int} {A M : Nat} (h : Drw rs) (eu : rs.map Prod.snd = us.map Tm.raw) (wt : ∀ u ∈ us, WT (rs.map Prod.fst) 4 u) (l6 : rs.length ≤ 6) (ql : qs.length = rs.length) (D0 : 0 < D) (dq : ∀ q ∈ qs, DvQ D q) (DB : D.natAbs < 2 ^ A) (mq : ∀ q ∈ qs, Btw ((2 ^ M : Nat) : Rat) q) :
    SimIn (rs.map Prod.fst) us qs (LD * D) (LW ^ 3) (47 + A) 99 M := by
  have ul : us.length = rs.length := by have := congrArg List.length eu; rw [List.length_map, List.length_map] at this; exact this.symm
  refine ⟨h.nd, by rw [List.length_map]; exact ul, by rw [List.length_map]; exact l6, fun u hu => (wt u hu).le (by decide), fun u hu => ?_, by rw [List.length_map]; exact ql, fun q hq => Int.dvd_trans (dq q hq) (Int.dvd_mul_left _ _), fun u hu f hf => Int.dvd_trans ((wt u hu).dld f hf) (Int.dvd_mul_right _ _), Int.mul_pos (by decide) D0, ?_, fun u hu => (wt u hu).wd, by decide, by decide, by omega, by decide, mq⟩
  · have hm : u.raw ∈ rs.map Prod.snd := by rw [eu]; exact List.mem_map.mpr ⟨u, hu, rfl⟩
    obtain ⟨r, hr, e⟩ := List.mem_map.mp hm
    have := h.sz r hr
    rw [e, raw_size] at this
    exact this
  · rw [Int.natAbs_mul, Nat.pow_add]
    exact Nat.mul_lt_mul'' (by decide) DB
theorem Eqd.fr {K : PySem.W.Frag} {H : Hp} {n : Nat} {v u : V} {a b : Int} (h : Fr K H v a b) (k : Fr K H u a b) : Eqd K H (n + 1) v u := by
  obtain ⟨p, rfl, hp⟩ := h
  obtain ⟨q, rfl, hq⟩ := k
  exact Eqd.tup hp hq rfl (by show 2 ≤ 100000; decide) (all2_cons (Eqd.atom rfl) (all2_cons (Eqd.atom rfl) all2_nil))
theorem FrL.eqd {K : PySem.W.Frag} {H : Hp} {a b : Addr} {xs ys : List V} {qs : List Rat} (ha : SqL K H a xs) (hb : SqL K H b ys) (h : FrL K H xs qs) (k : FrL K H ys qs) (l : qs.length ≤ 1000) : Eqd K H 2 (.ref a) (.ref b) := by
  refine Eqd.lst ha hb (by rw [h.1, k.1]) (by rw [h.1]; omega) fun i u v hu hv => ?_
  obtain ⟨q, hq, h1⟩ := h.at hu
  exact Eqd.fr h1 (k.2 i v q hv hq)
theorem pow2_pos (n : Nat) : 0 < 2 ^ n := Nat.two_pow_pos n
theorem natAbs_le_of {a b : Int} (h : a.natAbs ≤ b.natAbs) {n : Nat} (k : b.natAbs < 2 ^ n) : a.natAbs < 2 ^ n := by omega
/-- an integer that is a small rational times a positive integer -/
theorem scaled_bd {x U : Int} {q : Rat} {m b : Nat} (e : (x : Rat) = q * U) (U0 : 0 < U) (UB : U.natAbs < 2 ^ b) (h : Btw ((2 ^ m : Nat) : Rat) q) : x.natAbs < 2 ^ (m + b) := by
  have p := ipos U0
  have a1 : (x : Rat) ≤ (((2 ^ m : Nat) : Int) * U : Int) := by
    rw [e, Rat.intCast_mul, Rat.intCast_natCast]
    exact Rat.mul_le_mul_of_nonneg_right h.2 (Rat.le_of_lt p)
  have a2 : ((-((2 ^ m : Nat) : Int) * U : Int) : Rat) ≤ (x : Rat) := by
    rw [e, Rat.intCast_mul, Rat.intCast_neg, Rat.intCast_natCast]
    exact Rat.mul_le_mul_of_nonneg_right h.1 (Rat.le_of_lt p)
  have b1 := Rat.intCast_le_intCast.mp a1
  have b2 := Rat.intCast_le_intCast.mp a2
  rw [Int.neg_mul] at b2
  have c : ((2 ^ m : Nat) : Int) * U < ((2 ^ (m + b) : Nat) : Int) := by
    rw [Nat.pow_add, Int.natCast_mul]
    have := pow2_pos m
    exact Int.mul_lt_mul_of_pos_left (by omega) (by omega)
  generalize ((2 ^ m : Nat) : Int) * U = z at *
  generalize (2 ^ (m + b) : Nat) = y at *
  omega
theorem DvQ.bt {D : Int} {q : Rat} {m b : Nat} (h : DvQ D q) (D0 : 0 < D) (DB : D.natAbs < 2 ^ b) (k : Btw ((2 ^ m : Nat) : Rat) q) : Bt q (m + b) := by
  have hd : (q.den : Int) ≤ D := Int.le_of_dvd D0 h
  have dp : (0 : Int) < (q.den : Int) := by have := q.den_pos; omega
  have dB : ((q.den : Int)).natAbs < 2 ^ b := by omega
  refine ⟨scaled_bd (x := q.num) (U := (q.den : Int)) (mul_den q).symm dp dB k, Nat.lt_of_lt_of_le dB (Nat.pow_le_pow_right (by decide) (by omega))⟩
theorem FrL.qq {K : PySem.W.Frag} {H : Hp} {xs : List V} {qs : List Rat} (h : FrL K H xs qs) : AllG (fun v (f : QQ) => Fr K H v f.1 f.2) xs (qs.map ofR) := ⟨by rw [List.length_map]; exact h.1, fun i x f a b => by
  rw [List.getElem?_map] at b
  cases e : qs[i]? with
  | none => rw [e] at b; cases b
  | some q => rw [e] at b; cases b; exact h.2 i x q a e⟩
theorem dls_ok {ss : List Str} : ∀ {n : Nat} {u : Tm}, WT ss n u → ∀ f ∈ dls n u, DlS f
  | 0, _, h => h.elim
  | n + 1, .ev s, _ => fun f hf => by cases hf
  | n + 1, .nd k us, h => fun f hf => by
    have key : f ∈ us.flatMap (dls n) → DlS f := fun z => by
      obtain ⟨u, hu, hf⟩ := List.mem_flatMap.mp z
      exact dls_ok (h.2 u hu) f hf
    cases k with
    | delay g =>
      rw [dls] at hf
      rcases List.mem_cons.mp hf with e | z
      · rw [e]; exact h.1.2
      · exact key z
    | max => rw [dls] at hf; exact key hf; intro g z; cases z
    | min => rw [dls] at hf; exact key hf; intro g z; cases z
    | median => rw [dls] at hf; exact key hf; intro g z; cases z
    | mix ws => rw [dls] at hf; exact key hf; intro g z; cases z
theorem env_at : ∀ {ns : List Str} {qs : List Rat} {j : Nat} {s : Str} {q : Rat}, ns.Nodup → ns[j]? = some s → qs[j]? = some q → env ns qs s = q
  | [], _, _, _, _, _, h, _ => by cases h
  | _ :: _, [], _, _, _, _, _, h => by cases h
  | n :: ns, x :: qs, 0, s, q, _, h1, h2 => by
    cases h1
    cases h2
    rw [env, if_pos rfl]
  | n :: ns, x :: qs, j + 1, s, q, nd, h1, h2 => by
    rw [List.nodup_cons] at nd
    rw [env, if_neg fun e => nd.1 (by rw [e]; exact List.mem_of_getElem? h1)]
    exact env_at nd.2 h1 h2
theorem nxt_len {ns : List Str} {us : List Tm} {qs : List Rat} : (nxt ns us qs).length = us.length := by rw [nxt, List.length_map]
theorem simN_len {ns : List Str} {us : List Tm} {qs : List Rat} (h : qs.length = us.length) : ∀ r, (simN ns us r qs).length = us.length
  | 0 => h
  | _ + 1 => nxt_len
theorem env_btw {ns : List Str} {qs : List Rat} {M : Rat} (h : ∀ q ∈ qs, Btw M q) (nd : ns.Nodup) (l : qs.length = ns.length) : ∀ s ∈ ns, Btw M (env ns qs s) := fun s hs => by
  obtain ⟨j, hj, e⟩ := List.getElem_of_mem hs
  have hq : qs[j]? = some (qs[j]'(by omega)) := List.getElem?_eq_getElem _
  rw [env_at nd (by rw [List.getElem?_eq_getElem hj, e]) hq]
  exact h _ (List.mem_of_getElem? hq)
theorem simN_btw {ns : List Str} {us : List Tm} {qs : List Rat} {M : Rat} (h : ∀ q ∈ qs, Btw M q) (nd : ns.Nodup) (l : qs.length = ns.length) (ul : us.length = ns.length) (wt : ∀ u ∈ us, WT ns 12 u) : ∀ r, ∀ q ∈ simN ns us r qs, Btw (M + 384 * (r : Rat)) q
  | 0 => fun q hq => (h q hq).up (by show M ≤ M + 384 * ((0 : Nat) : Rat); rw [show ((0 : Nat) : Rat) = 0 from rfl]; grind)
  | r + 1 => fun q hq => by
    have i := simN_btw h nd l ul wt r
    obtain ⟨u, hu, rfl⟩ := List.mem_map.mp (show q ∈ (us.map (Tm.val (env ns (simN ns us r qs)))) from hq)
    have b := WT.btw (env_btw i nd (by rw [simN_len (by rw [l, ul]), ul])) (wt u hu)
    refine b.up ?_
    rw [show ((r + 1 : Nat) : Rat) = (r : Rat) + 1 by rw [Rat.natCast_add]; rfl, show ((12 : Nat) : Rat) = 12 from rfl]
    grind
theorem kvz_eq : ∀ (ss : List Str) (vs : List V), (ss.map (Sum.inr : Str → Key)).zip vs = kvz ss vs
  | [], _ => rfl
  | _ :: _, [] => rfl
  | s :: ss, v :: vs => by
    rw [List.map_cons, List.zip_cons_cons, kvz_eq ss vs]
    rfl
theorem strs_k (ns : List Str) : ns.map V.str = (ns.map (Sum.inr : Str → Key)).map kV := by rw [List.map_map]; rfl
/-- a list of times in memory, over E, not too great -/
def TmL (K : PySem.W.Frag) (H : Hp) (l : Addr) (qs : List Rat) (E : Int) (A M : Nat) : Prop := ∃ xs, SqL K H l xs ∧ FrL K H xs qs ∧ 0 < E ∧ E.natAbs < 2 ^ A ∧ (∀ q ∈ qs, DvQ E q) ∧ ∀ q ∈ qs, Btw ((2 ^ M : Nat) : Rat) q
theorem TmL.same {K : PySem.W.Frag} {H H' : Hp} {l : Addr} {qs : List Rat} {E : Int} {A M : Nat} (h : TmL K H l qs E A M) (s : Same H H') : TmL K H' l qs E A M := by
  obtain ⟨xs, h1, h2, h3⟩ := h
  exact ⟨xs, s.seq h1, h2.same s, h3⟩
theorem FrL.bt {K : PySem.W.Frag} {H : Hp} {xs : List V} {qs : List Rat} {B : Nat} (h : FrL K H xs qs) (b : ∀ q ∈ qs, Bt q B) : FRs K H xs qs B := ⟨by rw [List.length_map]; exact h.1, fun i x f a c => by
  rw [List.getElem?_map] at c
  cases e : qs[i]? with
  | none => rw [e] at c; cases c
  | some q => rw [e] at c; cases c; exact FR.mk (h.2 i x q a e) (b q (List.mem_of_getElem? e))⟩
theorem TmL.frs {K : PySem.W.Frag} {H : Hp} {l : Addr} {qs : List Rat} {E : Int} {A M : Nat} (h : TmL K H l qs E A M) : ∃ xs, SqL K H l xs ∧ FRs K H xs qs (M + A) := by
  obtain ⟨xs, h1, h2, E0, EB, hd, hb⟩ := h
  exact ⟨xs, h1, h2.bt fun q hq => (hd q hq).bt E0 EB (hb q hq)⟩
/-- one round of drawn rows -/
theorem sim1 {K : PySem.W.Frag} {H : Hp} {C z l : Addr} {rs : List Row} {us : List Tm} {qs : List Rat} {E : Int} {A M : Nat} {Q : VK} (hC : Cls K C) (hN : NoAttr K C "pairs") (hX : SysAt K H C z 12 rs) (dw : Drw rs) (eu : rs.map Prod.snd = us.map Tm.raw) (wt : ∀ u ∈ us, WT (rs.map Prod.fst) 4 u) (l6 : rs.length ≤ 6) (ql : qs.length = rs.length) (T : TmL K H l qs E A M) (M9 : 9 ≤ M) (bits : A + M ≤ 7000)
    (w : ∀ l' H', Same H H' → H l' = none → TmL K H' l' (nxt (rs.map Prod.fst) us qs) (LD * E * LW ^ 3) (A + 146) (M + 1) → Q (.ref l') H') : ∃ (x C t : Addr) (rs : List Row) (r : Nat), [V.ref z, .ref l, .int 1] = [.ref x, .ref t, .int ((r : Nat) : Int)] ∧ Cls K C ∧ NoAttr K C "pairs" ∧ SysAt K H C x 12 rs ∧ SimQ K H rs t r Q := by
  obtain ⟨xs, h1, h2, E0, EB, hd, hb⟩ := T
  have I := simIn_of (A := A) (M := M) dw eu wt l6 ql E0 hd EB hb
  refine ⟨z, C, l, rs, 1, rfl, hC, hN, hX, xs, us, qs, _, _, _, _, _, eu, I, .inr h1, h2, by decide, by omega, fun l' zs H' s nl hl hz hq => ?_⟩
  refine w l' H' s nl ⟨zs, SqL.of hl, hz, Int.mul_pos I.D0 I.S0, ?_, fun q hq' => ?_, fun q hq' => ?_⟩
  · rw [Int.natAbs_mul]
    refine Nat.lt_of_lt_of_le (Nat.mul_lt_mul'' I.DB I.SB) ?_
    rw [← Nat.pow_add]
    exact Nat.pow_le_pow_right (by decide) (by omega)
  · have := (hq q hq').1
    rw [Int.pow_succ, Int.pow_zero, Int.one_mul] at this
    exact this
  · refine (hq q hq').2.up ?_
    have e1 : 2 ^ M + 384 * 1 ≤ 2 ^ (M + 1) := by
      have : 2 ^ 9 ≤ 2 ^ M := Nat.pow_le_pow_right (by decide) M9
      rw [Nat.pow_succ]
      omega
    have e2 := Rat.natCast_le_natCast.mpr e1
    rw [Rat.natCast_add, Rat.natCast_mul] at e2
    exact e2
/-! ### the law's own evaluation, over one denominator -/
theorem DvQ.add {E : Int} {x y : Rat} (h : DvQ E x) (k : DvQ E y) : DvQ E (x + y) := by
  refine DvQ.of (m := x.num * (E / x.den) + y.num * (E / y.den)) ?_
  rw [Rat.intCast_add, ← h.int, ← k.int]
  grind
theorem DvQ.mul {A B : Int} {x y : Rat} (h : DvQ A x) (k : DvQ B y) : DvQ (A * B) (x * y) := by
  refine DvQ.of (m := x.num * (A / x.den) * (y.num * (B / y.den))) ?_
  rw [Rat.intCast_mul, Rat.intCast_mul (x.num * _), ← h.int, ← k.int]
  grind
theorem DvQ.up {A B : Int} {x : Rat} (h : DvQ A x) (d : A ∣ B) : DvQ B x := Int.dvd_trans h d
theorem DvQ.zero {A : Int} : DvQ A 0 := Int.one_dvd A
/-- a rational over E, not greater than 2^M -/
def Num (E : Int) (M : Nat) (q : Rat) : Prop := DvQ E q ∧ Btw ((2 ^ M : Nat) : Rat) q
theorem num_bd {E : Int} {A M : Nat} {q : Rat} (E0 : 0 < E) (EB : E.natAbs < 2 ^ A) (h : Num E M q) : Bt q (M + A) := by
  have dp : (0 : Int) < (q.den : Int) := by have := q.den_pos; omega
  have p := ipos dp
  have hd : (q.den : Int) ≤ E := Int.le_of_dvd E0 h.1
  have dB : ((q.den : Int)).natAbs < 2 ^ A := by omega
  have e := (mul_den q).symm
  have a1 : (q.num : Rat) ≤ ((((2 ^ M : Nat) : Int) * (q.den : Int) : Int) : Rat) := by
    rw [e, Rat.intCast_mul, Rat.intCast_natCast (2 ^ M)]
    exact Rat.mul_le_mul_of_nonneg_right h.2.2 (Rat.le_of_lt p)
  have a2 : ((-((2 ^ M : Nat) : Int) * (q.den : Int) : Int) : Rat) ≤ (q.num : Rat) := by
    rw [e, Rat.intCast_mul, Rat.intCast_neg, Rat.intCast_natCast (2 ^ M)]
    exact Rat.mul_le_mul_of_nonneg_right h.2.1 (Rat.le_of_lt p)
  have b1 := Rat.intCast_le_intCast.mp a1
  have b2 := Rat.intCast_le_intCast.mp a2
  rw [Int.neg_mul] at b2
  have c : ((2 ^ M : Nat) : Int) * (q.den : Int) < ((2 ^ (M + A) : Nat) : Int) := by
    rw [Nat.pow_add, Int.natCast_mul]
    have := Nat.two_pow_pos M
    exact Int.mul_lt_mul_of_pos_left (by omega) (by omega)
  refine ⟨?_, Nat.lt_of_lt_of_le dB (Nat.pow_le_pow_right (by decide) (by omega))⟩
  show q.num.natAbs < _
  generalize ((2 ^ M : Nat) : Int) * (q.den : Int) = z at *
  generalize (2 ^ (M + A) : Nat) = y at *
  omega
theorem Btw.add {A B x y : Rat} (h : Btw A x) (k : Btw B y) : Btw (A + B) (x + y) := ⟨by have := h.1; have := k.1; grind, by have := h.2; have := k.2; grind⟩
theorem num_sum {E : Int} {M : Nat} : ∀ {qs : List Rat} (s : Rat) (k : Nat), DvQ E s → Btw ((k : Rat) * ((2 ^ M : Nat) : Rat)) s → (∀ q ∈ qs, Num E M q) → DvQ E (qs.foldl (· + ·) s) ∧ Btw (((k + qs.length : Nat) : Rat) * ((2 ^ M : Nat) : Rat)) (qs.foldl (· + ·) s)
  | [], s, k, h1, h2, _ => ⟨h1, h2⟩
  | q :: qs, s, k, h1, h2, h => by
    have hq := h q List.mem_cons_self
    have b := num_sum (qs := qs) (s + q) (k + 1) (h1.add hq.1) (by
      rw [show ((k + 1 : Nat) : Rat) = (k : Rat) + 1 by rw [Rat.natCast_add]; rfl]
      have := h2.add hq.2
      refine this.up ?_
      grind) fun x hx => h x (List.mem_cons_of_mem _ hx)
    rw [List.foldl_cons]
    refine ⟨b.1, ?_⟩
    rw [List.length_cons, show k + (qs.length + 1) = k + 1 + qs.length by omega]
    exact b.2
/-- sums of at most six such rationals -/
theorem num_sum_bd {E : Int} {A M : Nat} {qs : List Rat} (E0 : 0 < E) (EB : E.natAbs < 2 ^ A) (l : qs.length ≤ 6) (h : ∀ q ∈ qs, Num E M q) : Bt (qs.foldl (· + ·) 0) (M + 3 + A) := by
  have z := num_sum (E := E) (M := M) (qs := qs) 0 0 DvQ.zero ⟨by show -((0 : Rat) * _) ≤ 0; rw [Rat.zero_mul]; decide +kernel, by show (0 : Rat) ≤ 0 * _; rw [Rat.zero_mul]; exact Rat.le_refl⟩ h
  refine num_bd E0 EB ⟨z.1, z.2.up ?_⟩
  rw [Nat.zero_add, Nat.pow_add, Rat.natCast_mul, Rat.mul_comm ((2 ^ M : Nat) : Rat)]
  refine Rat.mul_le_mul_of_nonneg_right ?_ Rat.natCast_nonneg
  exact Rat.natCast_le_natCast.mpr (by omega)
theorem lmix_dv {E : Int} : ∀ {ws xs : List Rat}, (∀ (i : Nat) w x, ws[i]? = some w → xs[i]? = some x → DvQ E (w * x)) → DvQ E (lmix ws xs)
  | [], xs, _ => by cases xs <;> exact DvQ.zero
  | _ :: _, [], _ => DvQ.zero
  | w :: ws, x :: xs, h => (h 0 w x rfl rfl).add (lmix_dv fun i w x a b => h (i + 1) w x a b)
theorem mem_le_sum : ∀ {ws : List Rat}, (∀ w ∈ ws, 0 ≤ w) → ∀ w ∈ ws, w ≤ ws.sum
  | [], _, w, h => by cases h
  | v :: ws, h0, w, h => by
    have hs : 0 ≤ ws.sum := by
      have key : ∀ l : List Rat, (∀ w ∈ l, 0 ≤ w) → 0 ≤ l.sum := by
        intro l
        induction l with
        | nil => intro _; rw [List.sum_nil]; exact Rat.le_refl
        | cons a l ih =>
          intro hl
          rw [List.sum_cons]
          have := hl a List.mem_cons_self
          have := ih fun w hw => hl w (List.mem_cons_of_mem _ hw)
          grind
      exact key ws fun w hw => h0 w (List.mem_cons_of_mem _ hw)
    have hv := h0 v List.mem_cons_self
    rw [List.sum_cons]
    rcases List.mem_cons.mp h with rfl | z
    · grind
    · have := mem_le_sum (fun w hw => h0 w (List.mem_cons_of_mem _ hw)) w z
      grind
theorem Btw.share {M w x : Rat} (h : Btw M x) (w0 : 0 ≤ w) (w1 : w ≤ 1) : Btw M (w * x) := by
  have M0 : 0 ≤ M := by have := h.1; have := h.2; grind
  have a := Rat.mul_le_mul_of_nonneg_left h.2 w0
  have b := Rat.mul_le_mul_of_nonneg_left h.1 w0
  have c := Rat.mul_le_mul_of_nonneg_right w1 M0
  exact ⟨by grind, by grind⟩
/-- all that is reckoned on the way is such a rational -/
def FitV (E : Int) (M : Nat) (ρ : Str → Rat) : Nat → Tm → Prop
  | 0, _ => False
  | _ + 1, .ev s => Num E M (ρ s)
  | n + 1, .nd k us => Num E M ((Tm.nd k us).val ρ) ∧ (∀ u ∈ us, FitV E M ρ n u) ∧ ∀ ws, k = .mix ws → ∀ (i : Nat) w u, ws[i]? = some w → us[i]? = some u → Num E M (toR w * u.val ρ)
theorem FitV.num {E : Int} {M : Nat} {ρ : Str → Rat} : ∀ {n : Nat} {u : Tm}, FitV E M ρ n u → Num E M (u.val ρ)
  | 0, _, h => h.elim
  | n + 1, .ev s, h => by rw [Tm.val]; exact h
  | n + 1, .nd k us, h => h.1
theorem KdW.six {k : Kd} {m : Nat} (h : KdW k m) : 1 ≤ m ∧ m ≤ 6 := by
  cases k with
  | delay f => have := h.1; omega
  | max => exact h
  | min => exact h
  | median => have : m = 3 := h; omega
  | mix ws => exact h.1
theorem toR_dv {f : QQ} (h : 0 < f.2) : DvQ f.2 (toR f) := DvQ.of (toR_mul h)
theorem WT.dvq {ss : List Str} {ρ : Str → Rat} {D : Int} (dl : LD ∣ D) (hs : ∀ s ∈ ss, DvQ D (ρ s)) : ∀ {n : Nat} {u : Tm} {S : Int}, WT ss n u → Wd n u S → DvQ (D * S) (u.val ρ)
  | 0, _, _, h, _ => h.elim
  | n + 1, .ev s, S, h, _ => by rw [Tm.val]; exact (hs s h).up (Int.dvd_mul_right _ _)
  | n + 1, .nd k us, S, h, hW => by
    rw [Tm.val, vals_map]
    have l := KdW.six h.1
    have ne : us.map (Tm.val ρ) ≠ [] := fun z => by
      rw [List.map_eq_nil_iff] at z
      rw [z] at l
      exact absurd l.1 (by decide)
    have sub : (∀ u ∈ us, Wd n u S) → ∀ x ∈ us.map (Tm.val ρ), DvQ (D * S) x := fun hw x hx => by
      obtain ⟨u, hu, rfl⟩ := List.mem_map.mp hx
      exact WT.dvq dl hs (h.2 u hu) (hw u hu)
    cases k with
    | delay f =>
      refine DvQ.add (lmax_in (P := DvQ (D * S)) ne (sub hW)) ((toR_dv h.1.2.2.1).up ?_)
      exact Int.dvd_trans (LD_dv h.1.2.2.1 h.1.2.2.2.1) (Int.dvd_trans dl (Int.dvd_mul_right _ _))
    | max => exact lmax_in (P := DvQ (D * S)) ne (sub hW)
    | min => exact lmin_in (P := DvQ (D * S)) ne (sub hW)
    | median => exact lmed_in (P := DvQ (D * S)) (by rw [List.length_map]; exact h.1) (sub hW)
    | mix ws =>
      refine lmix_dv fun i w x a b => ?_
      rw [List.getElem?_map] at a b
      cases e1 : ws[i]? with
      | none => rw [e1] at a; cases a
      | some f =>
        cases e2 : us[i]? with
        | none => rw [e2] at b; cases b
        | some u =>
          rw [e1] at a
          rw [e2] at b
          cases a
          cases b
          obtain ⟨c, c0, rfl, hc⟩ := hW i f u e1 e2
          have n0 : ws ≠ [] := fun e => by rw [e] at e1; cases e1
          have w0 := (h.1.2.2.low n0 f (List.mem_of_getElem? e1)).1.1
          have z := (toR_dv w0).mul (WT.dvq dl hs (h.2 u (List.mem_of_getElem? e2)) hc)
          rw [Int.mul_left_comm] at z
          exact z
theorem WT.fit {ss : List Str} {ρ : Str → Rat} {D E : Int} {M : Rat} {N : Nat} (dl : LD ∣ D) (hs : ∀ s ∈ ss, DvQ D (ρ s)) (hb : ∀ s ∈ ss, Btw M (ρ s)) (hM : M + 384 ≤ ((2 ^ N : Nat) : Rat)) : ∀ {n : Nat} {u : Tm} {S : Int}, n ≤ 12 → WT ss n u → Wd n u S → D * S ∣ E → FitV E N ρ n u
  | 0, _, _, _, h, _, _ => h.elim
  | n + 1, .ev s, S, _, h, _, hE => ⟨(hs s h).up (Int.dvd_trans (Int.dvd_mul_right _ _) hE), (hb s h).up (by grind)⟩
  | n + 1, .nd k us, S, n12, h, hW, hE => by
    have up : ∀ {m : Nat} {x : Rat}, m ≤ 12 → Btw (M + 32 * (m : Rat)) x → Btw ((2 ^ N : Nat) : Rat) x := fun {m x} hm b => b.up (by
      have : (m : Rat) ≤ ((12 : Nat) : Rat) := Rat.natCast_le_natCast.mpr hm
      have e : ((12 : Nat) : Rat) = 12 := rfl
      grind)
    refine ⟨⟨(WT.dvq dl hs h hW).up hE, up n12 (WT.btw hb h)⟩, fun u hu => ?_, fun ws ek i w u a b => ?_⟩
    · cases k with
      | delay f => exact WT.fit dl hs hb hM (by omega) (h.2 u hu) (hW u hu) hE
      | max => exact WT.fit dl hs hb hM (by omega) (h.2 u hu) (hW u hu) hE
      | min => exact WT.fit dl hs hb hM (by omega) (h.2 u hu) (hW u hu) hE
      | median => exact WT.fit dl hs hb hM (by omega) (h.2 u hu) (hW u hu) hE
      | mix ws =>
        obtain ⟨i, hi, e⟩ := List.getElem_of_mem hu
        have hui : us[i]? = some u := by rw [List.getElem?_eq_getElem hi, e]
        have wl : ws.length = us.length := h.1.2.1
        obtain ⟨c, c0, eS, hc⟩ := hW i (ws[i]'(by omega)) u (List.getElem?_eq_getElem _) hui
        refine WT.fit dl hs hb hM (by omega) (h.2 u hu) hc (Int.dvd_trans ?_ hE)
        rw [eS, Int.mul_left_comm]
        exact Int.dvd_mul_left _ _
    · subst ek
      obtain ⟨c, c0, rfl, hc⟩ := hW i w u a b
      have n0 : ws ≠ [] := fun e => by rw [e] at a; cases a
      have w0 := (h.1.2.2.low n0 w (List.mem_of_getElem? a)).1.1
      have hu := h.2 u (List.mem_of_getElem? b)
      have z := (toR_dv w0).mul (WT.dvq dl hs hu hc)
      rw [Int.mul_left_comm] at z
      obtain ⟨p0, p1⟩ := h.1.2.2.nice n0
      have wm : toR w ∈ ws.map toR := List.mem_map.mpr ⟨w, List.mem_of_getElem? a, rfl⟩
      exact ⟨z.up hE, Btw.share (up (by omega) (WT.btw hb hu)) (p0 _ wm) (by rw [← p1]; exact mem_le_sum p0 _ wm)⟩
/-- a term's value, the law's way -/
def spEv (K : PySem.W.Frag) : Nat → Sp
  | 0 => fun _ _ _ _ => False
  | n + 1 => fun vs H Q _ => ∃ (v : V) (d : Addr) (t : Tm) (ss : List Str) (ρ : Str → Rat) (E : Int) (A M : Nat), vs = [v, .ref d] ∧ TmAt K H (n + 1) v t ∧ WT ss (n + 1) t ∧ FitV E M ρ (n + 1) t ∧ 0 < E ∧ E.natAbs < 2 ^ A ∧ M + 3 + A ≤ 3850 ∧ Tbl K H d ρ ss (M + 3 + A) ∧ ∀ u H', Same H H' → FR K H' u (t.val ρ) (M + 3 + A) → Q u H'
/-! ### o.m(.., k = v, ..) of an own class -/
def tMethN (C : Addr) (mn : Str) (n m : Nat) (sp : Sp) (gV : List V → List V → List V) (E : XK) (ta : TE) (t tk : TA) : TE := fun σ H Q => ta σ H fun x H1 => ∃ a dx fs, x = .ref a ∧ H1 a = some (.ins C dx fs) ∧ fs.lookup mn = none ∧ t σ H1 fun vs H2 => tk σ H2 fun zs H3 => (V.ref a :: vs).length = n ∧ zs.length = m ∧ sp (gV (.ref a :: vs) zs) H3 Q E
section
variable {X : Cx} {CX : CXT} {k n : Nat} {C f : Addr} {fd : FuncData} {ps ks : List Str} {sp : Sp} {E : XK} {m : Str} {o e : Expr} {es : List Expr} {ta : TE} {t tk : TA} {apos pos : Pos} {kws : List Keyword} {g : List Value → List Value → List Value} {gV : List V → List V → List V}
theorem pe_methN {pl : Sem Bool} (he : PE X o ta) (c : Cls X.K C) (hm : Meth X.K C m f) (F : FnOk X.prog X.w X.K X.mg X.base CX k f fd ps sp) (hr : Room k X.A) (hb : KBn X.K fd ps n ks g gV) (hx : Passes CX X E) (ha : PA X (e :: es) t) (hkw : PK X kws tk)
    (hall : (backToKw pos (keywordEach kws X.env)).all (·.1.isSome) = true := by rfl) (hks : (backToKw pos (keywordEach kws X.env)).filterMap (·.1) = ks := by rfl) (hst : starEach (e :: es) X.env = (false, eval e X.env) :: starEach es X.env := by rfl)
    (hpl : ((backTo pos (starEach (e :: es) X.env)).any (·.1) || (backToKw pos (keywordEach kws X.env)).any (·.1.isNone)) = false := by rfl)
    (ht : eval (.Call (.Attribute o m apos) (e :: es) kws pos) X.env = (do
      let ov ← eval o X.env
      standAt apos.atName
      let (f, first) ← holding [ov] (getMethod ov m pl)
      callWith pos f first (backTo pos (starEach (e :: es) X.env)) (backToKw pos (keywordEach kws X.env))) := by rfl) :
    PE X (.Call (.Attribute o m apos) (e :: es) kws pos) (tMethN C m n ks.length sp gV E ta t tk) := by
  refine ⟨fun pins s σ H Q I h => ?_⟩
  refine PySem.W.methodCall_KW (pl := pl) (thn (he.run pins s σ H _ I h) fun u s1 ⟨x, H1, I1, rx, a, dx, fs, ex, ea, l, q⟩ => ?_) ht
  subst ex
  obtain rfl : u = Value.ref a := rx
  refine getmeth_ok I1 ea c hm l ?_
  refine PySem.W.callWith_KW (first := [.ref a]) (h₀ := X.base) I.ok.mod.kin hm.kp hall (thn (ha.run pos pins s1 σ H1 _ I1 q) fun us s2 ⟨vs, H2, I2, r, q2⟩ => ?_) hpl hst
  refine thn (hkw.run pos pins s2 σ H2 _ I2 q2) fun ws s3 ⟨zs, H3, I3, rz, l1, l2, q3⟩ => ⟨I3.kIn, ?_⟩
  rw [hks]
  exact run_fnN (us := .ref a :: us) (vs := .ref a :: vs) F hr hb hx I3 (.cons rfl r) rz l1 l2 q3
theorem pe_methN0 {pl : Sem Bool} (he : PE X o ta) (c : Cls X.K C) (hm : Meth X.K C m f) (F : FnOk X.prog X.w X.K X.mg X.base CX k f fd ps sp) (hr : Room k X.A) (hb : KBn X.K fd ps n ks g gV) (hx : Passes CX X E) (hkw : PK X kws tk)
    (hall : (backToKw pos (keywordEach kws X.env)).all (·.1.isSome) = true := by rfl) (hks : (backToKw pos (keywordEach kws X.env)).filterMap (·.1) = ks := by rfl)
    (hpl : ((backTo pos (starEach [] X.env)).any (·.1) || (backToKw pos (keywordEach kws X.env)).any (·.1.isNone)) = false := by rfl)
    (ht : eval (.Call (.Attribute o m apos) [] kws pos) X.env = (do
      let ov ← eval o X.env
      standAt apos.atName
      let (f, first) ← holding [ov] (getMethod ov m pl)
      callWith pos f first (backTo pos (starEach [] X.env)) (backToKw pos (keywordEach kws X.env))) := by rfl) :
    PE X (.Call (.Attribute o m apos) [] kws pos) (tMethN C m n ks.length sp gV E ta tNil tk) := by
  refine ⟨fun pins s σ H Q I h => ?_⟩
  refine PySem.W.methodCall_KW (pl := pl) (thn (he.run pins s σ H _ I h) fun u s1 ⟨x, H1, I1, rx, a, dx, fs, ex, ea, l, q⟩ => ?_) ht
  subst ex
  obtain rfl : u = Value.ref a := rx
  refine getmeth_ok I1 ea c hm l ?_
  refine PySem.W.callWith_KW0 (first := [.ref a]) (h₀ := X.base) I.ok.mod.kin hm.kp hall (thn (hkw.run pos pins s1 σ H1 _ I1 q) fun ws s3 ⟨zs, H3, I3, rz, l1, l2, q3⟩ => ⟨I3.kIn, ?_⟩) hpl
  rw [hks]
  exact run_fnN (us := [.ref a]) (vs := [.ref a]) F hr hb hx I3 (.cons rfl .nil) rz l1 l2 q3
end

def topS (i : Nat) : Stmt := PySem.Challenge.pw_gaithold_k30_regime_errors.main.body.getD i (.Pass ⟨0, 0, 0, 0⟩)
abbrev s_i_GaitError : Stmt := (inClass (topS 2) 0)
theorem sc_i_GaitError : FnScope ["self", "tag", "message"] ["self", "tag", "message"] (defScope s_i_GaitError) := ⟨rfl, rfl, rfl, by decide +kernel, rfl, by decide +kernel, by decide +kernel⟩
abbrev s_i_NotFound : Stmt := (inClass (topS 3) 0)
theorem sc_i_NotFound : FnScope ["self", "tag", "message"] ["self", "tag", "message"] (defScope s_i_NotFound) := ⟨rfl, rfl, rfl, by decide +kernel, rfl, by decide +kernel, by decide +kernel⟩
abbrev s_i_InvalidTerm : Stmt := (inClass (topS 4) 0)
theorem sc_i_InvalidTerm : FnScope ["self", "name"] ["self", "name"] (defScope s_i_InvalidTerm) := ⟨rfl, rfl, rfl, by decide +kernel, rfl, by decide +kernel, by decide +kernel⟩
abbrev s_i_InvalidName : Stmt := (inClass (topS 5) 0)
theorem sc_i_InvalidName : FnScope ["self", "name"] ["self", "name"] (defScope s_i_InvalidName) := ⟨rfl, rfl, rfl, by decide +kernel, rfl, by decide +kernel, by decide +kernel⟩
abbrev s_i_InvalidCount : Stmt := (inClass (topS 6) 0)
theorem sc_i_InvalidCount : FnScope ["self", "quantity"] ["self", "quantity"] (defScope s_i_InvalidCount) := ⟨rfl, rfl, rfl, by decide +kernel, rfl, by decide +kernel, by decide +kernel⟩
abbrev s_i_InvalidTimes : Stmt := (inClass (topS 7) 0)
theorem sc_i_InvalidTimes : FnScope ["self"] ["self"] (defScope s_i_InvalidTimes) := ⟨rfl, rfl, rfl, by decide +kernel, rfl, by decide +kernel, by decide +kernel⟩
abbrev s_i_InvalidRound : Stmt := (inClass (topS 8) 0)
theorem sc_i_InvalidRound : FnScope ["self", "number"] ["self", "number"] (defScope s_i_InvalidRound) := ⟨rfl, rfl, rfl, by decide +kernel, rfl, by decide +kernel, by decide +kernel⟩
abbrev s_i_DuplicateName : Stmt := (inClass (topS 9) 0)
theorem sc_i_DuplicateName : FnScope ["self", "name"] ["self", "name"] (defScope s_i_DuplicateName) := ⟨rfl, rfl, rfl, by decide +kernel, rfl, by decide +kernel, by decide +kernel⟩
abbrev s_i_UnknownEvent : Stmt := (inClass (topS 10) 0)
theorem sc_i_UnknownEvent : FnScope ["self", "name"] ["self", "name"] (defScope s_i_UnknownEvent) := ⟨rfl, rfl, rfl, by decide +kernel, rfl, by decide +kernel, by decide +kernel⟩
abbrev s_i_ZeroDenominator : Stmt := (inClass (topS 11) 0)
theorem sc_i_ZeroDenominator : FnScope ["self"] ["self"] (defScope s_i_ZeroDenominator) := ⟨rfl, rfl, rfl, by decide +kernel, rfl, by decide +kernel, by decide +kernel⟩
abbrev s_p_greatest_divisor : Stmt := topS 15
theorem sc_p_greatest_divisor : FnScope ["one", "other"] ["one", "other"] (defScope s_p_greatest_divisor) := ⟨rfl, rfl, rfl, by decide +kernel, rfl, by decide +kernel, by decide +kernel⟩
abbrev s_p_least_multiple : Stmt := topS 16
theorem sc_p_least_multiple : FnScope ["one", "other"] ["one", "other"] (defScope s_p_least_multiple) := ⟨rfl, rfl, rfl, by decide +kernel, rfl, by decide +kernel, by decide +kernel⟩
abbrev s_p_common_denominator : Stmt := topS 17
theorem sc_p_common_denominator : FnScope ["row", "result", "num", "den"] ["row"] (defScope s_p_common_denominator) := ⟨rfl, rfl, rfl, by decide +kernel, rfl, by decide +kernel, by decide +kernel⟩
abbrev s_p_fraction : Stmt := topS 18
theorem sc_p_fraction : FnScope ["num", "den", "divisor"] ["num", "den"] (defScope s_p_fraction) := ⟨rfl, rfl, rfl, by decide +kernel, rfl, by decide +kernel, by decide +kernel⟩
abbrev s_p_add : Stmt := topS 19
theorem sc_p_add : FnScope ["one", "other"] ["one", "other"] (defScope s_p_add) := ⟨rfl, rfl, rfl, by decide +kernel, rfl, by decide +kernel, by decide +kernel⟩
abbrev s_p_subtract : Stmt := topS 20
theorem sc_p_subtract : FnScope ["one", "other"] ["one", "other"] (defScope s_p_subtract) := ⟨rfl, rfl, rfl, by decide +kernel, rfl, by decide +kernel, by decide +kernel⟩
abbrev s_p_multiply : Stmt := topS 21
theorem sc_p_multiply : FnScope ["one", "other"] ["one", "other"] (defScope s_p_multiply) := ⟨rfl, rfl, rfl, by decide +kernel, rfl, by decide +kernel, by decide +kernel⟩
abbrev s_p_divide : Stmt := topS 22
theorem sc_p_divide : FnScope ["one", "other"] ["one", "other"] (defScope s_p_divide) := ⟨rfl, rfl, rfl, by decide +kernel, rfl, by decide +kernel, by decide +kernel⟩
abbrev s_p_is_less : Stmt := topS 23
theorem sc_p_is_less : FnScope ["one", "other"] ["one", "other"] (defScope s_p_is_less) := ⟨rfl, rfl, rfl, by decide +kernel, rfl, by decide +kernel, by decide +kernel⟩
abbrev s_p_total : Stmt := topS 24
theorem sc_p_total : FnScope ["row", "start", "result", "one"] ["row", "start"] (defScope s_p_total) := ⟨rfl, rfl, rfl, by decide +kernel, rfl, by decide +kernel, by decide +kernel⟩
abbrev s_p_index_of_max : Stmt := topS 25
theorem sc_p_index_of_max : FnScope ["row", "best", "at", "one"] ["row"] (defScope s_p_index_of_max) := ⟨rfl, rfl, rfl, by decide +kernel, rfl, by decide +kernel, by decide +kernel⟩
abbrev s_p_ceiling : Stmt := topS 26
theorem sc_p_ceiling : FnScope ["one"] ["one"] (defScope s_p_ceiling) := ⟨rfl, rfl, rfl, by decide +kernel, rfl, by decide +kernel, by decide +kernel⟩
abbrev s_p_is_valid_name : Stmt := topS 35
theorem sc_p_is_valid_name : FnScope ["thing", "letter"] ["thing"] (defScope s_p_is_valid_name) := ⟨rfl, rfl, rfl, by decide +kernel, rfl, by decide +kernel, by decide +kernel⟩
abbrev s_p_is_number : Stmt := topS 36
theorem sc_p_is_number : FnScope ["thing"] ["thing"] (defScope s_p_is_number) := ⟨rfl, rfl, rfl, by decide +kernel, rfl, by decide +kernel, by decide +kernel⟩
abbrev s_p_is_term_fraction : Stmt := topS 37
theorem sc_p_is_term_fraction : FnScope ["thing", "num", "den"] ["thing"] (defScope s_p_is_term_fraction) := ⟨rfl, rfl, rfl, by decide +kernel, rfl, by decide +kernel, by decide +kernel⟩
abbrev s_p_is_weighted : Stmt := topS 38
theorem sc_p_is_weighted : FnScope ["pair"] ["pair"] (defScope s_p_is_weighted) := ⟨rfl, rfl, rfl, by decide +kernel, rfl, by decide +kernel, by decide +kernel⟩
abbrev s_p_is_mixture : Stmt := topS 39
theorem sc_p_is_mixture : FnScope ["pairs", "pair"] ["pairs"] (defScope s_p_is_mixture) := ⟨rfl, rfl, rfl, by decide +kernel, rfl, by decide +kernel, by decide +kernel⟩
abbrev s_p_has_term_form : Stmt := topS 40
theorem sc_p_has_term_form : FnScope ["thing", "kind", "many"] ["thing"] (defScope s_p_has_term_form) := ⟨rfl, rfl, rfl, by decide +kernel, rfl, by decide +kernel, by decide +kernel⟩
abbrev s_p_subterms : Stmt := topS 41
theorem sc_p_subterms : FnScope ["term", "kind", "pair"] ["term"] (defScope s_p_subterms) := ⟨rfl, rfl, rfl, by decide +kernel, rfl, by decide +kernel, by decide +kernel⟩
abbrev s_p_is_valid_term : Stmt := topS 43
theorem sc_p_is_valid_term : FnScope ["thing", "level", "size", "depth", "part", "whole"] ["thing"] (defScope s_p_is_valid_term) := ⟨rfl, rfl, rfl, by decide +kernel, rfl, by decide +kernel, by decide +kernel⟩
abbrev s_p_event_names : Stmt := topS 44
theorem sc_p_event_names : FnScope ["term", "names", "part", "name"] ["term"] (defScope s_p_event_names) := ⟨rfl, rfl, rfl, by decide +kernel, rfl, by decide +kernel, by decide +kernel⟩
abbrev s_p_delays_in : Stmt := topS 45
theorem sc_p_delays_in : FnScope ["term", "amounts", "part", "amount"] ["term"] (defScope s_p_delays_in) := ⟨rfl, rfl, rfl, by decide +kernel, rfl, by decide +kernel, by decide +kernel⟩
abbrev s_p_check_names : Stmt := topS 47
theorem sc_p_check_names : FnScope ["term", "known", "name"] ["term", "known"] (defScope s_p_check_names) := ⟨rfl, rfl, rfl, by decide +kernel, rfl, by decide +kernel, by decide +kernel⟩
abbrev s_p_weight_scale : Stmt := topS 65
theorem sc_p_weight_scale : FnScope ["term", "scale", "weight", "part"] ["term"] (defScope s_p_weight_scale) := ⟨rfl, rfl, rfl, by decide +kernel, rfl, by decide +kernel, by decide +kernel⟩
abbrev s_p_rate_of : Stmt := topS 92
theorem sc_p_rate_of : FnScope ["system", "name"] ["system", "name"] (defScope s_p_rate_of) := ⟨rfl, rfl, rfl, by decide +kernel, rfl, by decide +kernel, by decide +kernel⟩
abbrev s_p_is_regime : Stmt := topS 93
theorem sc_p_is_regime : FnScope ["system", "times", "rates", "since", "rows", "pieces", "wanted"] ["system", "times", "rates", "since"] (defScope s_p_is_regime) := ⟨rfl, rfl, rfl, by decide +kernel, rfl, by decide +kernel, by decide +kernel⟩
abbrev s_p_check_row_names : Stmt := topS 99
theorem sc_p_check_row_names : FnScope ["rows", "seen", "name", "term"] ["rows"] (defScope s_p_check_row_names) := ⟨rfl, rfl, rfl, by decide +kernel, rfl, by decide +kernel, by decide +kernel⟩
abbrev s_p_check_row_terms : Stmt := topS 100
theorem sc_p_check_row_terms : FnScope ["rows", "name", "term", "known"] ["rows"] (defScope s_p_check_row_terms) := ⟨rfl, rfl, rfl, by decide +kernel, rfl, by decide +kernel, by decide +kernel⟩
abbrev s_o_EventSystem_init : Stmt := (inClass (topS 101) 0)
theorem sc_o_EventSystem_init : FnScope ["self", "rows", "name", "term"] ["self", "rows"] (defScope s_o_EventSystem_init) := ⟨rfl, rfl, rfl, by decide +kernel, rfl, by decide +kernel, by decide +kernel⟩
abbrev s_o_EventSystem_rows : Stmt := (inClass (topS 101) 1)
theorem sc_o_EventSystem_rows : FnScope ["self"] ["self"] (defScope s_o_EventSystem_rows) := ⟨rfl, rfl, rfl, by decide +kernel, rfl, by decide +kernel, by decide +kernel⟩
abbrev s_o_EventSystem_term : Stmt := (inClass (topS 101) 4)
theorem sc_o_EventSystem_term : FnScope ["self", "name", "known", "term"] ["self", "name"] (defScope s_o_EventSystem_term) := ⟨rfl, rfl, rfl, by decide +kernel, rfl, by decide +kernel, by decide +kernel⟩
abbrev s_o_EventSystem_len : Stmt := (inClass (topS 101) 7)
theorem sc_o_EventSystem_len : FnScope ["self"] ["self"] (defScope s_o_EventSystem_len) := ⟨rfl, rfl, rfl, by decide +kernel, rfl, by decide +kernel, by decide +kernel⟩
abbrev s_l_source : Stmt := topS 103
theorem sc_l_source : FnScope ["_law_script", "_law_knot", "_law_cell"] ["_law_script"] (defScope s_l_source) := ⟨rfl, rfl, rfl, by decide +kernel, rfl, by decide +kernel, by decide +kernel⟩
abbrev s_l_draw : Stmt := topS 104
theorem sc_l_draw : FnScope ["_law_rng", "_law_quantity", "_law_cell", "_law_got", "_law_seed"] ["_law_rng", "_law_quantity"] (defScope s_l_draw) := ⟨rfl, rfl, rfl, by decide +kernel, rfl, by decide +kernel, by decide +kernel⟩
abbrev s_l_choice : Stmt := topS 105
theorem sc_l_choice : FnScope ["_law_rng", "_law_some"] ["_law_rng", "_law_some"] (defScope s_l_choice) := ⟨rfl, rfl, rfl, by decide +kernel, rfl, by decide +kernel, by decide +kernel⟩
abbrev s_l_shuffled : Stmt := topS 106
theorem sc_l_shuffled : FnScope ["_law_rng", "_law_some", "_law_result", "_law_one"] ["_law_rng", "_law_some"] (defScope s_l_shuffled) := ⟨rfl, rfl, rfl, by decide +kernel, rfl, by decide +kernel, by decide +kernel⟩
abbrev s_l_equal : Stmt := topS 107
theorem sc_l_equal : FnScope ["_law_result", "_law_expected", "_law_one", "_law_other"] ["_law_result", "_law_expected"] (defScope s_l_equal) := ⟨rfl, rfl, rfl, by decide +kernel, rfl, by decide +kernel, by decide +kernel⟩
abbrev s_l_error_field : Stmt := topS 108
theorem sc_l_error_field : FnScope ["_law_e"] ["_law_e"] (defScope s_l_error_field) := ⟨rfl, rfl, rfl, by decide +kernel, rfl, by decide +kernel, by decide +kernel⟩
abbrev s_l_outcome : Stmt := topS 109
theorem sc_l_outcome : FnScope ["_law_ask", "_law_answer", "_law_tag", "_law_field", "_law_e"] ["_law_ask"] (defScope s_l_outcome) := ⟨rfl, rfl, rfl, by decide +kernel, rfl, by decide +kernel, by decide +kernel⟩
abbrev s_l_error : Stmt := topS 110
theorem sc_l_error : FnScope ["_law_ask"] ["_law_ask"] (defScope s_l_error) := ⟨rfl, rfl, rfl, by decide +kernel, rfl, by decide +kernel, by decide +kernel⟩
abbrev s_l_reduce : Stmt := topS 111
theorem sc_l_reduce : FnScope ["_law_num", "_law_den", "_law_one", "_law_other", "_law_sign"] ["_law_num", "_law_den"] (defScope s_l_reduce) := ⟨rfl, rfl, rfl, by decide +kernel, rfl, by decide +kernel, by decide +kernel⟩
abbrev s_l_small : Stmt := topS 112
theorem sc_l_small : FnScope ["_law_rng"] ["_law_rng"] (defScope s_l_small) := ⟨rfl, rfl, rfl, by decide +kernel, rfl, by decide +kernel, by decide +kernel⟩
abbrev s_l_letters : Stmt := topS 113
theorem sc_l_letters : FnScope [] [] (defScope s_l_letters) := ⟨rfl, rfl, rfl, by decide +kernel, rfl, by decide +kernel, by decide +kernel⟩
abbrev s_l_is_name : Stmt := topS 114
theorem sc_l_is_name : FnScope ["_law_text", "_law_sign"] ["_law_text"] (defScope s_l_is_name) := ⟨rfl, rfl, rfl, by decide +kernel, rfl, by decide +kernel, by decide +kernel⟩
abbrev s_l_plain : Stmt := topS 115
theorem sc_l_plain : FnScope ["_law_names_here", "_law_name"] ["_law_names_here"] (defScope s_l_plain) := ⟨rfl, rfl, rfl, by decide +kernel, rfl, by decide +kernel, by decide +kernel⟩
abbrev s_l_names : Stmt := topS 116
theorem sc_l_names : FnScope ["_law_rng", "_law_quantity", "_law_abc", "_law_width", "_law_pos", "_law_lead", "_law_step", "_law_base", "_law_result", "_law_k", "_law_sign", "_law_name", "_law_cut", "_law_spare"] ["_law_rng", "_law_quantity"] (defScope s_l_names) := ⟨rfl, rfl, rfl, by decide +kernel, rfl, by decide +kernel, by decide +kernel⟩
abbrev s_l_operands : Stmt := topS 117
theorem sc_l_operands : FnScope ["_law_term_here", "_law_share", "_law_one"] ["_law_term_here"] (defScope s_l_operands) := ⟨rfl, rfl, rfl, by decide +kernel, rfl, by decide +kernel, by decide +kernel⟩
abbrev s_l_shares : Stmt := topS 118
theorem sc_l_shares : FnScope ["_law_rng", "_law_quantity", "_law_weights", "_law_k", "_law_one"] ["_law_rng", "_law_quantity"] (defScope s_l_shares) := ⟨rfl, rfl, rfl, by decide +kernel, rfl, by decide +kernel, by decide +kernel⟩
abbrev s_l_term : Stmt := topS 119
theorem sc_l_term : FnScope ["_law_rng", "_law_names_here", "_law_deep", "_law_pick", "_law_quantity", "_law_parts", "_law_k", "_law_share", "_law_one"] ["_law_rng", "_law_names_here", "_law_deep"] (defScope s_l_term) := ⟨rfl, rfl, rfl, by decide +kernel, rfl, by decide +kernel, by decide +kernel⟩
abbrev s_l_many_lines : Stmt := topS 120
theorem sc_l_many_lines : FnScope ["_law_term_here", "_law_parts", "_law_quantity", "_law_one"] ["_law_term_here"] (defScope s_l_many_lines) := ⟨rfl, rfl, rfl, by decide +kernel, rfl, by decide +kernel, by decide +kernel⟩
abbrev s_l_narrow_term : Stmt := topS 121
theorem sc_l_narrow_term : FnScope ["_law_rng", "_law_names_here", "_law_deep", "_law_wide", "_law_term_here", "_law_step"] ["_law_rng", "_law_names_here", "_law_deep"] (defScope s_l_narrow_term) := ⟨rfl, rfl, rfl, by decide +kernel, rfl, by decide +kernel, by decide +kernel⟩
abbrev s_l_rows : Stmt := topS 122
theorem sc_l_rows : FnScope ["_law_rng", "_law_limit", "_law_deep", "_law_names_here", "_law_name"] ["_law_rng", "_law_limit", "_law_deep"] (defScope s_l_rows) := ⟨rfl, rfl, rfl, by decide +kernel, rfl, by decide +kernel, by decide +kernel⟩
abbrev s_l_initial_times : Stmt := topS 123
theorem sc_l_initial_times : FnScope ["_law_rng", "_law_rows_here", "_law_row"] ["_law_rng", "_law_rows_here"] (defScope s_l_initial_times) := ⟨rfl, rfl, rfl, by decide +kernel, rfl, by decide +kernel, by decide +kernel⟩
abbrev s_l_unused_name : Stmt := topS 124
theorem sc_l_unused_name : FnScope ["_law_names_here", "_law_name"] ["_law_names_here"] (defScope s_l_unused_name) := ⟨rfl, rfl, rfl, by decide +kernel, rfl, by decide +kernel, by decide +kernel⟩
abbrev s_l_wide_term : Stmt := topS 125
theorem sc_l_wide_term : FnScope ["_law_rng", "_law_names_here", "_law_quantity", "_law_tag", "_law_parts", "_law_k", "_law_share", "_law_one"] ["_law_rng", "_law_names_here"] (defScope s_l_wide_term) := ⟨rfl, rfl, rfl, by decide +kernel, rfl, by decide +kernel, by decide +kernel⟩
abbrev s_p_law : Stmt := topS 126
theorem sc_p_law : FnScope ["_law_script", "_law_rng", "_law_turn", "_law_rows_here", "_law_system", "_law_some", "_law_odd", "_law_low", "_law_asks", "_law_unknown", "_law_ask", "_law_name", "_law_term_here"] ["_law_script"] (defScope s_p_law) := ⟨rfl, rfl, rfl, by decide +kernel, rfl, by decide +kernel, by decide +kernel⟩
structure Ad where
  f_i_GaitError : Addr
  fd_i_GaitError : FuncData
  f_i_NotFound : Addr
  fd_i_NotFound : FuncData
  f_i_InvalidTerm : Addr
  fd_i_InvalidTerm : FuncData
  f_i_InvalidName : Addr
  fd_i_InvalidName : FuncData
  f_i_InvalidCount : Addr
  fd_i_InvalidCount : FuncData
  f_i_InvalidTimes : Addr
  fd_i_InvalidTimes : FuncData
  f_i_InvalidRound : Addr
  fd_i_InvalidRound : FuncData
  f_i_DuplicateName : Addr
  fd_i_DuplicateName : FuncData
  f_i_UnknownEvent : Addr
  fd_i_UnknownEvent : FuncData
  f_i_ZeroDenominator : Addr
  fd_i_ZeroDenominator : FuncData
  f_p_greatest_divisor : Addr
  fd_p_greatest_divisor : FuncData
  f_p_least_multiple : Addr
  fd_p_least_multiple : FuncData
  f_p_common_denominator : Addr
  fd_p_common_denominator : FuncData
  f_p_fraction : Addr
  fd_p_fraction : FuncData
  f_p_add : Addr
  fd_p_add : FuncData
  f_p_subtract : Addr
  fd_p_subtract : FuncData
  f_p_multiply : Addr
  fd_p_multiply : FuncData
  f_p_divide : Addr
  fd_p_divide : FuncData
  f_p_is_less : Addr
  fd_p_is_less : FuncData
  f_p_total : Addr
  fd_p_total : FuncData
  f_p_index_of_max : Addr
  fd_p_index_of_max : FuncData
  f_p_ceiling : Addr
  fd_p_ceiling : FuncData
  f_p_is_valid_name : Addr
  fd_p_is_valid_name : FuncData
  f_p_is_number : Addr
  fd_p_is_number : FuncData
  f_p_is_term_fraction : Addr
  fd_p_is_term_fraction : FuncData
  f_p_is_weighted : Addr
  fd_p_is_weighted : FuncData
  f_p_is_mixture : Addr
  fd_p_is_mixture : FuncData
  f_p_has_term_form : Addr
  fd_p_has_term_form : FuncData
  f_p_subterms : Addr
  fd_p_subterms : FuncData
  f_p_is_valid_term : Addr
  fd_p_is_valid_term : FuncData
  f_p_event_names : Addr
  fd_p_event_names : FuncData
  f_p_delays_in : Addr
  fd_p_delays_in : FuncData
  f_p_check_names : Addr
  fd_p_check_names : FuncData
  f_p_weight_scale : Addr
  fd_p_weight_scale : FuncData
  f_p_rate_of : Addr
  fd_p_rate_of : FuncData
  f_p_is_regime : Addr
  fd_p_is_regime : FuncData
  f_p_check_row_names : Addr
  fd_p_check_row_names : FuncData
  f_p_check_row_terms : Addr
  fd_p_check_row_terms : FuncData
  f_o_EventSystem_init : Addr
  fd_o_EventSystem_init : FuncData
  f_o_EventSystem_rows : Addr
  fd_o_EventSystem_rows : FuncData
  f_o_EventSystem_term : Addr
  fd_o_EventSystem_term : FuncData
  f_o_EventSystem_len : Addr
  fd_o_EventSystem_len : FuncData
  f_l_source : Addr
  fd_l_source : FuncData
  f_l_draw : Addr
  fd_l_draw : FuncData
  f_l_choice : Addr
  fd_l_choice : FuncData
  f_l_shuffled : Addr
  fd_l_shuffled : FuncData
  f_l_equal : Addr
  fd_l_equal : FuncData
  f_l_error_field : Addr
  fd_l_error_field : FuncData
  f_l_outcome : Addr
  fd_l_outcome : FuncData
  f_l_error : Addr
  fd_l_error : FuncData
  f_l_reduce : Addr
  fd_l_reduce : FuncData
  f_l_small : Addr
  fd_l_small : FuncData
  f_l_letters : Addr
  fd_l_letters : FuncData
  f_l_is_name : Addr
  fd_l_is_name : FuncData
  f_l_plain : Addr
  fd_l_plain : FuncData
  f_l_names : Addr
  fd_l_names : FuncData
  f_l_operands : Addr
  fd_l_operands : FuncData
  f_l_shares : Addr
  fd_l_shares : FuncData
  f_l_term : Addr
  fd_l_term : FuncData
  f_l_many_lines : Addr
  fd_l_many_lines : FuncData
  f_l_narrow_term : Addr
  fd_l_narrow_term : FuncData
  f_l_rows : Addr
  fd_l_rows : FuncData
  f_l_initial_times : Addr
  fd_l_initial_times : FuncData
  f_l_unused_name : Addr
  fd_l_unused_name : FuncData
  f_l_wide_term : Addr
  fd_l_wide_term : FuncData
  f_p_law : Addr
  fd_p_law : FuncData
  o_ZERO : Addr
  o_KEYWORDS : Addr
  tk_MAX_NAME : Tok
  tk_MAX_SIDE : Tok
  tk_MAX_OPERANDS : Tok
  tk_MAX_SIZE : Tok
  tk_MAX_DEPTH : Tok
  tk_MAX_EVENTS : Tok
  C_GaitError : Addr
  C_NotFound : Addr
  C_ZeroDenominator : Addr
  C_EmptyHistory : Addr
  C_UnknownEvent : Addr
  C_InvalidTimes : Addr
  C_InvalidRound : Addr
  C_InvalidName : Addr
  C_DuplicateName : Addr
  C_InvalidTerm : Addr
  C_InvalidCount : Addr
  C_EventSystem : Addr
  cL : Addr
  tL : Addr
structure Txt (K : PySem.W.Frag) (mg : Str → Option Value) (a : Ad) : Prop where
  iC_GaitError : PySem.W.findIn K (.ref a.C_GaitError) "__init__" = some (some (.ref a.f_i_GaitError))
  tI_GaitError : PySem.W.typeIn K (.ref a.f_i_GaitError) = some (.type "function")
  F_i_GaitError : FunD K "__init__" "GaitError.__init__" (defArgs s_i_GaitError) (defBody s_i_GaitError) (defScope s_i_GaitError) [(.str "GaitError"), (.str "")] [] a.f_i_GaitError a.fd_i_GaitError
  b_i_GaitError_3 : ∃ ds, Vals [] ds ∧ Binds K a.fd_i_GaitError ["self", "tag", "message"] ds
  iC_NotFound : PySem.W.findIn K (.ref a.C_NotFound) "__init__" = some (some (.ref a.f_i_NotFound))
  tI_NotFound : PySem.W.typeIn K (.ref a.f_i_NotFound) = some (.type "function")
  F_i_NotFound : FunD K "__init__" "NotFound.__init__" (defArgs s_i_NotFound) (defBody s_i_NotFound) (defScope s_i_NotFound) [(.str "NotFound"), (.str "")] [] a.f_i_NotFound a.fd_i_NotFound
  b_i_NotFound_3 : ∃ ds, Vals [] ds ∧ Binds K a.fd_i_NotFound ["self", "tag", "message"] ds
  iC_InvalidTerm : PySem.W.findIn K (.ref a.C_InvalidTerm) "__init__" = some (some (.ref a.f_i_InvalidTerm))
  tI_InvalidTerm : PySem.W.typeIn K (.ref a.f_i_InvalidTerm) = some (.type "function")
  F_i_InvalidTerm : Fun K "__init__" "InvalidTerm.__init__" s_i_InvalidTerm a.f_i_InvalidTerm a.fd_i_InvalidTerm
  b_i_InvalidTerm : Binds K a.fd_i_InvalidTerm ["self", "name"] []
  iC_InvalidName : PySem.W.findIn K (.ref a.C_InvalidName) "__init__" = some (some (.ref a.f_i_InvalidName))
  tI_InvalidName : PySem.W.typeIn K (.ref a.f_i_InvalidName) = some (.type "function")
  F_i_InvalidName : Fun K "__init__" "InvalidName.__init__" s_i_InvalidName a.f_i_InvalidName a.fd_i_InvalidName
  b_i_InvalidName : Binds K a.fd_i_InvalidName ["self", "name"] []
  iC_InvalidCount : PySem.W.findIn K (.ref a.C_InvalidCount) "__init__" = some (some (.ref a.f_i_InvalidCount))
  tI_InvalidCount : PySem.W.typeIn K (.ref a.f_i_InvalidCount) = some (.type "function")
  F_i_InvalidCount : Fun K "__init__" "InvalidCount.__init__" s_i_InvalidCount a.f_i_InvalidCount a.fd_i_InvalidCount
  b_i_InvalidCount : Binds K a.fd_i_InvalidCount ["self", "quantity"] []
  iC_InvalidTimes : PySem.W.findIn K (.ref a.C_InvalidTimes) "__init__" = some (some (.ref a.f_i_InvalidTimes))
  tI_InvalidTimes : PySem.W.typeIn K (.ref a.f_i_InvalidTimes) = some (.type "function")
  F_i_InvalidTimes : Fun K "__init__" "InvalidTimes.__init__" s_i_InvalidTimes a.f_i_InvalidTimes a.fd_i_InvalidTimes
  b_i_InvalidTimes : Binds K a.fd_i_InvalidTimes ["self"] []
  iC_InvalidRound : PySem.W.findIn K (.ref a.C_InvalidRound) "__init__" = some (some (.ref a.f_i_InvalidRound))
  tI_InvalidRound : PySem.W.typeIn K (.ref a.f_i_InvalidRound) = some (.type "function")
  F_i_InvalidRound : Fun K "__init__" "InvalidRound.__init__" s_i_InvalidRound a.f_i_InvalidRound a.fd_i_InvalidRound
  b_i_InvalidRound : Binds K a.fd_i_InvalidRound ["self", "number"] []
  iC_DuplicateName : PySem.W.findIn K (.ref a.C_DuplicateName) "__init__" = some (some (.ref a.f_i_DuplicateName))
  tI_DuplicateName : PySem.W.typeIn K (.ref a.f_i_DuplicateName) = some (.type "function")
  F_i_DuplicateName : Fun K "__init__" "DuplicateName.__init__" s_i_DuplicateName a.f_i_DuplicateName a.fd_i_DuplicateName
  b_i_DuplicateName : Binds K a.fd_i_DuplicateName ["self", "name"] []
  iC_UnknownEvent : PySem.W.findIn K (.ref a.C_UnknownEvent) "__init__" = some (some (.ref a.f_i_UnknownEvent))
  tI_UnknownEvent : PySem.W.typeIn K (.ref a.f_i_UnknownEvent) = some (.type "function")
  F_i_UnknownEvent : Fun K "__init__" "UnknownEvent.__init__" s_i_UnknownEvent a.f_i_UnknownEvent a.fd_i_UnknownEvent
  b_i_UnknownEvent : Binds K a.fd_i_UnknownEvent ["self", "name"] []
  iC_ZeroDenominator : PySem.W.findIn K (.ref a.C_ZeroDenominator) "__init__" = some (some (.ref a.f_i_ZeroDenominator))
  tI_ZeroDenominator : PySem.W.typeIn K (.ref a.f_i_ZeroDenominator) = some (.type "function")
  F_i_ZeroDenominator : Fun K "__init__" "ZeroDenominator.__init__" s_i_ZeroDenominator a.f_i_ZeroDenominator a.fd_i_ZeroDenominator
  b_i_ZeroDenominator : Binds K a.fd_i_ZeroDenominator ["self"] []
  g_p_greatest_divisor : mg "greatest_divisor" = some (.ref a.f_p_greatest_divisor)
  F_p_greatest_divisor : Fun K "greatest_divisor" "greatest_divisor" s_p_greatest_divisor a.f_p_greatest_divisor a.fd_p_greatest_divisor
  b_p_greatest_divisor : Binds K a.fd_p_greatest_divisor ["one", "other"] []
  g_p_least_multiple : mg "least_multiple" = some (.ref a.f_p_least_multiple)
  F_p_least_multiple : Fun K "least_multiple" "least_multiple" s_p_least_multiple a.f_p_least_multiple a.fd_p_least_multiple
  b_p_least_multiple : Binds K a.fd_p_least_multiple ["one", "other"] []
  g_p_common_denominator : mg "common_denominator" = some (.ref a.f_p_common_denominator)
  F_p_common_denominator : Fun K "common_denominator" "common_denominator" s_p_common_denominator a.f_p_common_denominator a.fd_p_common_denominator
  b_p_common_denominator : Binds K a.fd_p_common_denominator ["row"] []
  g_p_fraction : mg "fraction" = some (.ref a.f_p_fraction)
  F_p_fraction : FunD K "fraction" "fraction" (defArgs s_p_fraction) (defBody s_p_fraction) (defScope s_p_fraction) [(.int 1)] [] a.f_p_fraction a.fd_p_fraction
  b_p_fraction_2 : ∃ ds, Vals [] ds ∧ Binds K a.fd_p_fraction ["num", "den"] ds
  g_p_add : mg "add" = some (.ref a.f_p_add)
  F_p_add : Fun K "add" "add" s_p_add a.f_p_add a.fd_p_add
  b_p_add : Binds K a.fd_p_add ["one", "other"] []
  g_p_subtract : mg "subtract" = some (.ref a.f_p_subtract)
  F_p_subtract : Fun K "subtract" "subtract" s_p_subtract a.f_p_subtract a.fd_p_subtract
  b_p_subtract : Binds K a.fd_p_subtract ["one", "other"] []
  g_p_multiply : mg "multiply" = some (.ref a.f_p_multiply)
  F_p_multiply : Fun K "multiply" "multiply" s_p_multiply a.f_p_multiply a.fd_p_multiply
  b_p_multiply : Binds K a.fd_p_multiply ["one", "other"] []
  g_p_divide : mg "divide" = some (.ref a.f_p_divide)
  F_p_divide : Fun K "divide" "divide" s_p_divide a.f_p_divide a.fd_p_divide
  b_p_divide : Binds K a.fd_p_divide ["one", "other"] []
  g_p_is_less : mg "is_less" = some (.ref a.f_p_is_less)
  F_p_is_less : Fun K "is_less" "is_less" s_p_is_less a.f_p_is_less a.fd_p_is_less
  b_p_is_less : Binds K a.fd_p_is_less ["one", "other"] []
  g_p_total : mg "total" = some (.ref a.f_p_total)
  F_p_total : FunD K "total" "total" (defArgs s_p_total) (defBody s_p_total) (defScope s_p_total) [] [("start", (.ref a.o_ZERO))] a.f_p_total a.fd_p_total
  b_p_total_1 : ∃ ds, Vals [(.ref a.o_ZERO)] ds ∧ Binds K a.fd_p_total ["row", "start"] ds
  g_p_index_of_max : mg "index_of_max" = some (.ref a.f_p_index_of_max)
  F_p_index_of_max : Fun K "index_of_max" "index_of_max" s_p_index_of_max a.f_p_index_of_max a.fd_p_index_of_max
  b_p_index_of_max : Binds K a.fd_p_index_of_max ["row"] []
  g_p_ceiling : mg "ceiling" = some (.ref a.f_p_ceiling)
  F_p_ceiling : Fun K "ceiling" "ceiling" s_p_ceiling a.f_p_ceiling a.fd_p_ceiling
  b_p_ceiling : Binds K a.fd_p_ceiling ["one"] []
  g_p_is_valid_name : mg "is_valid_name" = some (.ref a.f_p_is_valid_name)
  F_p_is_valid_name : Fun K "is_valid_name" "is_valid_name" s_p_is_valid_name a.f_p_is_valid_name a.fd_p_is_valid_name
  b_p_is_valid_name : Binds K a.fd_p_is_valid_name ["thing"] []
  g_p_is_number : mg "is_number" = some (.ref a.f_p_is_number)
  F_p_is_number : Fun K "is_number" "is_number" s_p_is_number a.f_p_is_number a.fd_p_is_number
  b_p_is_number : Binds K a.fd_p_is_number ["thing"] []
  g_p_is_term_fraction : mg "is_term_fraction" = some (.ref a.f_p_is_term_fraction)
  F_p_is_term_fraction : Fun K "is_term_fraction" "is_term_fraction" s_p_is_term_fraction a.f_p_is_term_fraction a.fd_p_is_term_fraction
  b_p_is_term_fraction : Binds K a.fd_p_is_term_fraction ["thing"] []
  g_p_is_weighted : mg "is_weighted" = some (.ref a.f_p_is_weighted)
  F_p_is_weighted : Fun K "is_weighted" "is_weighted" s_p_is_weighted a.f_p_is_weighted a.fd_p_is_weighted
  b_p_is_weighted : Binds K a.fd_p_is_weighted ["pair"] []
  g_p_is_mixture : mg "is_mixture" = some (.ref a.f_p_is_mixture)
  F_p_is_mixture : Fun K "is_mixture" "is_mixture" s_p_is_mixture a.f_p_is_mixture a.fd_p_is_mixture
  b_p_is_mixture : Binds K a.fd_p_is_mixture ["pairs"] []
  g_p_has_term_form : mg "has_term_form" = some (.ref a.f_p_has_term_form)
  F_p_has_term_form : Fun K "has_term_form" "has_term_form" s_p_has_term_form a.f_p_has_term_form a.fd_p_has_term_form
  b_p_has_term_form : Binds K a.fd_p_has_term_form ["thing"] []
  g_p_subterms : mg "subterms" = some (.ref a.f_p_subterms)
  F_p_subterms : Fun K "subterms" "subterms" s_p_subterms a.f_p_subterms a.fd_p_subterms
  b_p_subterms : Binds K a.fd_p_subterms ["term"] []
  g_p_is_valid_term : mg "is_valid_term" = some (.ref a.f_p_is_valid_term)
  F_p_is_valid_term : Fun K "is_valid_term" "is_valid_term" s_p_is_valid_term a.f_p_is_valid_term a.fd_p_is_valid_term
  b_p_is_valid_term : Binds K a.fd_p_is_valid_term ["thing"] []
  g_p_event_names : mg "event_names" = some (.ref a.f_p_event_names)
  F_p_event_names : Fun K "event_names" "event_names" s_p_event_names a.f_p_event_names a.fd_p_event_names
  b_p_event_names : Binds K a.fd_p_event_names ["term"] []
  g_p_delays_in : mg "delays_in" = some (.ref a.f_p_delays_in)
  F_p_delays_in : Fun K "delays_in" "delays_in" s_p_delays_in a.f_p_delays_in a.fd_p_delays_in
  b_p_delays_in : Binds K a.fd_p_delays_in ["term"] []
  g_p_check_names : mg "check_names" = some (.ref a.f_p_check_names)
  F_p_check_names : Fun K "check_names" "check_names" s_p_check_names a.f_p_check_names a.fd_p_check_names
  b_p_check_names : Binds K a.fd_p_check_names ["term", "known"] []
  g_p_weight_scale : mg "weight_scale" = some (.ref a.f_p_weight_scale)
  F_p_weight_scale : Fun K "weight_scale" "weight_scale" s_p_weight_scale a.f_p_weight_scale a.fd_p_weight_scale
  b_p_weight_scale : Binds K a.fd_p_weight_scale ["term"] []
  g_p_rate_of : mg "rate_of" = some (.ref a.f_p_rate_of)
  F_p_rate_of : Fun K "rate_of" "rate_of" s_p_rate_of a.f_p_rate_of a.fd_p_rate_of
  b_p_rate_of : Binds K a.fd_p_rate_of ["system", "name"] []
  g_p_is_regime : mg "is_regime" = some (.ref a.f_p_is_regime)
  F_p_is_regime : Fun K "is_regime" "is_regime" s_p_is_regime a.f_p_is_regime a.fd_p_is_regime
  b_p_is_regime : Binds K a.fd_p_is_regime ["system", "times", "rates", "since"] []
  g_p_check_row_names : mg "check_row_names" = some (.ref a.f_p_check_row_names)
  F_p_check_row_names : Fun K "check_row_names" "check_row_names" s_p_check_row_names a.f_p_check_row_names a.fd_p_check_row_names
  b_p_check_row_names : Binds K a.fd_p_check_row_names ["rows"] []
  g_p_check_row_terms : mg "check_row_terms" = some (.ref a.f_p_check_row_terms)
  F_p_check_row_terms : Fun K "check_row_terms" "check_row_terms" s_p_check_row_terms a.f_p_check_row_terms a.fd_p_check_row_terms
  b_p_check_row_terms : Binds K a.fd_p_check_row_terms ["rows"] []
  me_o_EventSystem_init : Meth K a.C_EventSystem "__init__" a.f_o_EventSystem_init
  mk_EventSystem : Mk K a.C_EventSystem a.f_o_EventSystem_init
  F_o_EventSystem_init : Fun K "__init__" "EventSystem.__init__" s_o_EventSystem_init a.f_o_EventSystem_init a.fd_o_EventSystem_init
  b_o_EventSystem_init : Binds K a.fd_o_EventSystem_init ["self", "rows"] []
  me_o_EventSystem_rows : Meth K a.C_EventSystem "rows" a.f_o_EventSystem_rows
  F_o_EventSystem_rows : Fun K "rows" "EventSystem.rows" s_o_EventSystem_rows a.f_o_EventSystem_rows a.fd_o_EventSystem_rows
  b_o_EventSystem_rows : Binds K a.fd_o_EventSystem_rows ["self"] []
  me_o_EventSystem_term : Meth K a.C_EventSystem "term" a.f_o_EventSystem_term
  F_o_EventSystem_term : Fun K "term" "EventSystem.term" s_o_EventSystem_term a.f_o_EventSystem_term a.fd_o_EventSystem_term
  b_o_EventSystem_term : Binds K a.fd_o_EventSystem_term ["self", "name"] []
  me_o_EventSystem_len : Meth K a.C_EventSystem "__len__" a.f_o_EventSystem_len
  F_o_EventSystem_len : Fun K "__len__" "EventSystem.__len__" s_o_EventSystem_len a.f_o_EventSystem_len a.fd_o_EventSystem_len
  b_o_EventSystem_len : Binds K a.fd_o_EventSystem_len ["self"] []
  g_l_source : mg "_law_source" = some (.ref a.f_l_source)
  F_l_source : Fun K "_law_source" "_law_source" s_l_source a.f_l_source a.fd_l_source
  b_l_source : Binds K a.fd_l_source ["_law_script"] []
  g_l_draw : mg "_law_draw" = some (.ref a.f_l_draw)
  F_l_draw : Fun K "_law_draw" "_law_draw" s_l_draw a.f_l_draw a.fd_l_draw
  b_l_draw : Binds K a.fd_l_draw ["_law_rng", "_law_quantity"] []
  g_l_choice : mg "_law_choice" = some (.ref a.f_l_choice)
  F_l_choice : Fun K "_law_choice" "_law_choice" s_l_choice a.f_l_choice a.fd_l_choice
  b_l_choice : Binds K a.fd_l_choice ["_law_rng", "_law_some"] []
  g_l_shuffled : mg "_law_shuffled" = some (.ref a.f_l_shuffled)
  F_l_shuffled : Fun K "_law_shuffled" "_law_shuffled" s_l_shuffled a.f_l_shuffled a.fd_l_shuffled
  b_l_shuffled : Binds K a.fd_l_shuffled ["_law_rng", "_law_some"] []
  g_l_equal : mg "_law_equal" = some (.ref a.f_l_equal)
  F_l_equal : Fun K "_law_equal" "_law_equal" s_l_equal a.f_l_equal a.fd_l_equal
  b_l_equal : Binds K a.fd_l_equal ["_law_result", "_law_expected"] []
  g_l_error_field : mg "_law_error_field" = some (.ref a.f_l_error_field)
  F_l_error_field : Fun K "_law_error_field" "_law_error_field" s_l_error_field a.f_l_error_field a.fd_l_error_field
  b_l_error_field : Binds K a.fd_l_error_field ["_law_e"] []
  g_l_outcome : mg "_law_outcome" = some (.ref a.f_l_outcome)
  F_l_outcome : Fun K "_law_outcome" "_law_outcome" s_l_outcome a.f_l_outcome a.fd_l_outcome
  b_l_outcome : Binds K a.fd_l_outcome ["_law_ask"] []
  g_l_error : mg "_law_error" = some (.ref a.f_l_error)
  F_l_error : Fun K "_law_error" "_law_error" s_l_error a.f_l_error a.fd_l_error
  b_l_error : Binds K a.fd_l_error ["_law_ask"] []
  g_l_reduce : mg "_law_reduce" = some (.ref a.f_l_reduce)
  F_l_reduce : Fun K "_law_reduce" "_law_reduce" s_l_reduce a.f_l_reduce a.fd_l_reduce
  b_l_reduce : Binds K a.fd_l_reduce ["_law_num", "_law_den"] []
  g_l_small : mg "_law_small" = some (.ref a.f_l_small)
  F_l_small : Fun K "_law_small" "_law_small" s_l_small a.f_l_small a.fd_l_small
  b_l_small : Binds K a.fd_l_small ["_law_rng"] []
  g_l_letters : mg "_law_letters" = some (.ref a.f_l_letters)
  F_l_letters : Fun K "_law_letters" "_law_letters" s_l_letters a.f_l_letters a.fd_l_letters
  b_l_letters : Binds K a.fd_l_letters [] []
  g_l_is_name : mg "_law_is_name" = some (.ref a.f_l_is_name)
  F_l_is_name : Fun K "_law_is_name" "_law_is_name" s_l_is_name a.f_l_is_name a.fd_l_is_name
  b_l_is_name : Binds K a.fd_l_is_name ["_law_text"] []
  g_l_plain : mg "_law_plain" = some (.ref a.f_l_plain)
  F_l_plain : Fun K "_law_plain" "_law_plain" s_l_plain a.f_l_plain a.fd_l_plain
  b_l_plain : Binds K a.fd_l_plain ["_law_names_here"] []
  g_l_names : mg "_law_names" = some (.ref a.f_l_names)
  F_l_names : Fun K "_law_names" "_law_names" s_l_names a.f_l_names a.fd_l_names
  b_l_names : Binds K a.fd_l_names ["_law_rng", "_law_quantity"] []
  g_l_operands : mg "_law_operands" = some (.ref a.f_l_operands)
  F_l_operands : Fun K "_law_operands" "_law_operands" s_l_operands a.f_l_operands a.fd_l_operands
  b_l_operands : Binds K a.fd_l_operands ["_law_term_here"] []
  g_l_shares : mg "_law_shares" = some (.ref a.f_l_shares)
  F_l_shares : Fun K "_law_shares" "_law_shares" s_l_shares a.f_l_shares a.fd_l_shares
  b_l_shares : Binds K a.fd_l_shares ["_law_rng", "_law_quantity"] []
  g_l_term : mg "_law_term" = some (.ref a.f_l_term)
  F_l_term : Fun K "_law_term" "_law_term" s_l_term a.f_l_term a.fd_l_term
  b_l_term : Binds K a.fd_l_term ["_law_rng", "_law_names_here", "_law_deep"] []
  g_l_many_lines : mg "_law_many_lines" = some (.ref a.f_l_many_lines)
  F_l_many_lines : Fun K "_law_many_lines" "_law_many_lines" s_l_many_lines a.f_l_many_lines a.fd_l_many_lines
  b_l_many_lines : Binds K a.fd_l_many_lines ["_law_term_here"] []
  g_l_narrow_term : mg "_law_narrow_term" = some (.ref a.f_l_narrow_term)
  F_l_narrow_term : Fun K "_law_narrow_term" "_law_narrow_term" s_l_narrow_term a.f_l_narrow_term a.fd_l_narrow_term
  b_l_narrow_term : Binds K a.fd_l_narrow_term ["_law_rng", "_law_names_here", "_law_deep"] []
  g_l_rows : mg "_law_rows" = some (.ref a.f_l_rows)
  F_l_rows : Fun K "_law_rows" "_law_rows" s_l_rows a.f_l_rows a.fd_l_rows
  b_l_rows : Binds K a.fd_l_rows ["_law_rng", "_law_limit", "_law_deep"] []
  g_l_initial_times : mg "_law_initial_times" = some (.ref a.f_l_initial_times)
  F_l_initial_times : Fun K "_law_initial_times" "_law_initial_times" s_l_initial_times a.f_l_initial_times a.fd_l_initial_times
  b_l_initial_times : Binds K a.fd_l_initial_times ["_law_rng", "_law_rows_here"] []
  g_l_unused_name : mg "_law_unused_name" = some (.ref a.f_l_unused_name)
  F_l_unused_name : Fun K "_law_unused_name" "_law_unused_name" s_l_unused_name a.f_l_unused_name a.fd_l_unused_name
  b_l_unused_name : Binds K a.fd_l_unused_name ["_law_names_here"] []
  g_l_wide_term : mg "_law_wide_term" = some (.ref a.f_l_wide_term)
  F_l_wide_term : Fun K "_law_wide_term" "_law_wide_term" s_l_wide_term a.f_l_wide_term a.fd_l_wide_term
  b_l_wide_term : Binds K a.fd_l_wide_term ["_law_rng", "_law_names_here"] []
  g_p_law : mg "law" = some (.ref a.f_p_law)
  F_p_law : LmN.FunC K "law" "law" s_p_law a.f_p_law a.fd_p_law a.cL
  rd_GaitError : PySem.W.readsIn K a.C_GaitError (.type "type") = true
  sg_GaitError : PySem.W.specialIn K (.ref a.C_GaitError) "__getattribute__" = some (some (.builtin "type.__getattribute__"))
  fc_GaitError : PySem.W.findCls K (.ref a.C_GaitError) (.type "type") "__init__" = some (.val (.ref a.f_i_GaitError))
  rd_NotFound : PySem.W.readsIn K a.C_NotFound (.type "type") = true
  sg_NotFound : PySem.W.specialIn K (.ref a.C_NotFound) "__getattribute__" = some (some (.builtin "type.__getattribute__"))
  fc_NotFound : PySem.W.findCls K (.ref a.C_NotFound) (.type "type") "__init__" = some (.val (.ref a.f_i_NotFound))
  gC_GaitError : mg "GaitError" = some (.ref a.C_GaitError)
  gC_NotFound : mg "NotFound" = some (.ref a.C_NotFound)
  gC_ZeroDenominator : mg "ZeroDenominator" = some (.ref a.C_ZeroDenominator)
  gC_EmptyHistory : mg "EmptyHistory" = some (.ref a.C_EmptyHistory)
  gC_UnknownEvent : mg "UnknownEvent" = some (.ref a.C_UnknownEvent)
  gC_InvalidTimes : mg "InvalidTimes" = some (.ref a.C_InvalidTimes)
  gC_InvalidRound : mg "InvalidRound" = some (.ref a.C_InvalidRound)
  gC_InvalidName : mg "InvalidName" = some (.ref a.C_InvalidName)
  gC_DuplicateName : mg "DuplicateName" = some (.ref a.C_DuplicateName)
  gC_InvalidTerm : mg "InvalidTerm" = some (.ref a.C_InvalidTerm)
  gC_InvalidCount : mg "InvalidCount" = some (.ref a.C_InvalidCount)
  gC_EventSystem : mg "EventSystem" = some (.ref a.C_EventSystem)
  cl_EventSystem : Cls K a.C_EventSystem
  na_EventSystem_pairs : NoAttr K a.C_EventSystem "pairs"
  oC_ZeroDenominator : ExB.Own K a.C_ZeroDenominator "ZeroDivisionError" "ZeroDivisionError.__new__" "ZeroDivisionError.__init__" [.type "ZeroDivisionError", .type "ArithmeticError", .type "Exception", .type "BaseException", .type "object"]
  xC_ZeroDenominator : XfC K a.C_ZeroDenominator
  no_ZeroDenominator_tag : PySem.W.findIn K (.ref a.C_ZeroDenominator) "tag" = some none
  em_ZeroDenominator_GaitError : PySem.W.exmAny K (.ref a.C_ZeroDenominator) [.ref a.C_GaitError, .ref a.C_NotFound] = some false
  em_ZeroDenominator_ZeroDenominator : PySem.W.exmAny K (.ref a.C_ZeroDenominator) [.ref a.C_ZeroDenominator, .ref a.C_EmptyHistory] = some true
  oC_UnknownEvent : ExB.Own K a.C_UnknownEvent "LookupError" "LookupError.__new__" "LookupError.__init__" [.type "LookupError", .type "Exception", .type "BaseException", .type "object"]
  xC_UnknownEvent : XfC K a.C_UnknownEvent
  no_UnknownEvent_tag : PySem.W.findIn K (.ref a.C_UnknownEvent) "tag" = some none
  no_UnknownEvent_name : PySem.W.findIn K (.ref a.C_UnknownEvent) "name" = some none
  em_UnknownEvent_GaitError : PySem.W.exmAny K (.ref a.C_UnknownEvent) [.ref a.C_GaitError, .ref a.C_NotFound] = some true
  em_UnknownEvent_ZeroDenominator : PySem.W.exmAny K (.ref a.C_UnknownEvent) [.ref a.C_ZeroDenominator, .ref a.C_EmptyHistory] = some false
  oC_InvalidTimes : ExB.Own K a.C_InvalidTimes "ValueError" "ValueError.__new__" "ValueError.__init__" [.type "ValueError", .type "Exception", .type "BaseException", .type "object"]
  xC_InvalidTimes : XfC K a.C_InvalidTimes
  no_InvalidTimes_tag : PySem.W.findIn K (.ref a.C_InvalidTimes) "tag" = some none
  em_InvalidTimes_GaitError : PySem.W.exmAny K (.ref a.C_InvalidTimes) [.ref a.C_GaitError, .ref a.C_NotFound] = some true
  em_InvalidTimes_ZeroDenominator : PySem.W.exmAny K (.ref a.C_InvalidTimes) [.ref a.C_ZeroDenominator, .ref a.C_EmptyHistory] = some false
  oC_InvalidRound : ExB.Own K a.C_InvalidRound "ValueError" "ValueError.__new__" "ValueError.__init__" [.type "ValueError", .type "Exception", .type "BaseException", .type "object"]
  xC_InvalidRound : XfC K a.C_InvalidRound
  no_InvalidRound_tag : PySem.W.findIn K (.ref a.C_InvalidRound) "tag" = some none
  no_InvalidRound_number : PySem.W.findIn K (.ref a.C_InvalidRound) "number" = some none
  em_InvalidRound_GaitError : PySem.W.exmAny K (.ref a.C_InvalidRound) [.ref a.C_GaitError, .ref a.C_NotFound] = some true
  em_InvalidRound_ZeroDenominator : PySem.W.exmAny K (.ref a.C_InvalidRound) [.ref a.C_ZeroDenominator, .ref a.C_EmptyHistory] = some false
  oC_InvalidName : ExB.Own K a.C_InvalidName "ValueError" "ValueError.__new__" "ValueError.__init__" [.type "ValueError", .type "Exception", .type "BaseException", .type "object"]
  xC_InvalidName : XfC K a.C_InvalidName
  no_InvalidName_tag : PySem.W.findIn K (.ref a.C_InvalidName) "tag" = some none
  no_InvalidName_name : PySem.W.findIn K (.ref a.C_InvalidName) "name" = some none
  em_InvalidName_GaitError : PySem.W.exmAny K (.ref a.C_InvalidName) [.ref a.C_GaitError, .ref a.C_NotFound] = some true
  em_InvalidName_ZeroDenominator : PySem.W.exmAny K (.ref a.C_InvalidName) [.ref a.C_ZeroDenominator, .ref a.C_EmptyHistory] = some false
  oC_DuplicateName : ExB.Own K a.C_DuplicateName "ValueError" "ValueError.__new__" "ValueError.__init__" [.type "ValueError", .type "Exception", .type "BaseException", .type "object"]
  xC_DuplicateName : XfC K a.C_DuplicateName
  no_DuplicateName_tag : PySem.W.findIn K (.ref a.C_DuplicateName) "tag" = some none
  no_DuplicateName_name : PySem.W.findIn K (.ref a.C_DuplicateName) "name" = some none
  em_DuplicateName_GaitError : PySem.W.exmAny K (.ref a.C_DuplicateName) [.ref a.C_GaitError, .ref a.C_NotFound] = some true
  em_DuplicateName_ZeroDenominator : PySem.W.exmAny K (.ref a.C_DuplicateName) [.ref a.C_ZeroDenominator, .ref a.C_EmptyHistory] = some false
  oC_InvalidTerm : ExB.Own K a.C_InvalidTerm "ValueError" "ValueError.__new__" "ValueError.__init__" [.type "ValueError", .type "Exception", .type "BaseException", .type "object"]
  xC_InvalidTerm : XfC K a.C_InvalidTerm
  no_InvalidTerm_tag : PySem.W.findIn K (.ref a.C_InvalidTerm) "tag" = some none
  no_InvalidTerm_name : PySem.W.findIn K (.ref a.C_InvalidTerm) "name" = some none
  em_InvalidTerm_GaitError : PySem.W.exmAny K (.ref a.C_InvalidTerm) [.ref a.C_GaitError, .ref a.C_NotFound] = some true
  em_InvalidTerm_ZeroDenominator : PySem.W.exmAny K (.ref a.C_InvalidTerm) [.ref a.C_ZeroDenominator, .ref a.C_EmptyHistory] = some false
  oC_InvalidCount : ExB.Own K a.C_InvalidCount "ValueError" "ValueError.__new__" "ValueError.__init__" [.type "ValueError", .type "Exception", .type "BaseException", .type "object"]
  xC_InvalidCount : XfC K a.C_InvalidCount
  no_InvalidCount_tag : PySem.W.findIn K (.ref a.C_InvalidCount) "tag" = some none
  no_InvalidCount_quantity : PySem.W.findIn K (.ref a.C_InvalidCount) "quantity" = some none
  em_InvalidCount_GaitError : PySem.W.exmAny K (.ref a.C_InvalidCount) [.ref a.C_GaitError, .ref a.C_NotFound] = some true
  em_InvalidCount_ZeroDenominator : PySem.W.exmAny K (.ref a.C_InvalidCount) [.ref a.C_ZeroDenominator, .ref a.C_EmptyHistory] = some false
  vV_LookupError : PySem.W.findCls K (.type "LookupError") (.type "type") "__init__" = some (.val (.builtin "LookupError.__init__"))
  vV_ValueError : PySem.W.findCls K (.type "ValueError") (.type "type") "__init__" = some (.val (.builtin "ValueError.__init__"))
  vV_ZeroDivisionError : PySem.W.findCls K (.type "ZeroDivisionError") (.type "type") "__init__" = some (.val (.builtin "ZeroDivisionError.__init__"))
  n_ValueError : mg "ValueError" = none
  n_LookupError : mg "LookupError" = none
  n_ZeroDivisionError : mg "ZeroDivisionError" = none
  n_abs : mg "abs" = none
  n_enumerate : mg "enumerate" = none
  n_all : mg "all" = none
  n_isinstance : mg "isinstance" = none
  n_str : mg "str" = none
  n_len : mg "len" = none
  n_int : mg "int" = none
  n_bool : mg "bool" = none
  n_tuple : mg "tuple" = none
  n_list : mg "list" = none
  n_zip : mg "zip" = none
  n_set : mg "set" = none
  n_range : mg "range" = none
  n_max : mg "max" = none
  n_sum : mg "sum" = none
  c_ZERO : mg "ZERO" = some (.ref a.o_ZERO)
  t_ZERO : ∀ H, SqT K H a.o_ZERO [(.int 0), (.int 1)]
  c_KEYWORDS : mg "KEYWORDS" = some (.ref a.o_KEYWORDS)
  t_KEYWORDS : ∀ H, SqT K H a.o_KEYWORDS [(.str "max"), (.str "min"), (.str "median"), (.str "mix")]
  c_MAX_NAME : mg "MAX_NAME" = some (.int 6 a.tk_MAX_NAME)
  c_MAX_SIDE : mg "MAX_SIDE" = some (.int 999999999999 a.tk_MAX_SIDE)
  c_MAX_OPERANDS : mg "MAX_OPERANDS" = some (.int 6 a.tk_MAX_OPERANDS)
  c_MAX_SIZE : mg "MAX_SIZE" = some (.int 40 a.tk_MAX_SIZE)
  c_MAX_DEPTH : mg "MAX_DEPTH" = some (.int 10 a.tk_MAX_DEPTH)
  c_MAX_EVENTS : mg "MAX_EVENTS" = some (.int 6 a.tk_MAX_EVENTS)
/-- an error of the class C with one field is wanted -/
abbrev Rz1 (C : Addr) (tag fld : Str) (v : V) (E : XK) (H : Hp) : Prop := ∀ dd H', Same H H' → H dd = none → H' dd = some (.xd [(fld, v), ("tag", .str tag)]) → E (.ref C) (some dd) H'
theorem Rz1.same {C : Addr} {tag fld : Str} {v : V} {E : XK} {H H1 : Hp} (s : Same H H1) (h : Rz1 C tag fld v E H) : Rz1 C tag fld v E H1 := fun dd H' s' n e => h dd H' (s.trans s') (s.free n) e
def RE.cls (a : Ad) : RE → Addr
  | .cnt _ => a.C_InvalidCount
  | .nam _ => a.C_InvalidName
  | .dup _ => a.C_DuplicateName
  | .trm _ => a.C_InvalidTerm
  | .unk _ => a.C_UnknownEvent
/-- which field an error of the tag has -/
def efTab : List (Str × Str) := [("InvalidTerm", "name"), ("InvalidName", "name"), ("TermTooLarge", "name"), ("DuplicateName", "name"), ("SystemInUse", "name"), ("UnknownEvent", "name"), ("UnknownSystem", "name"), ("UnknownRun", "name"), ("InvalidRound", "number"), ("InvalidLimit", "number"), ("InvalidShape", "pos"), ("ParseError", "pos"), ("InvalidCount", "quantity"), ("CapacityExceeded", "capacity"), ("InvalidCommand", "first")]
/-- errors without a field -/
def nfTab : List Str := ["NameMismatch", "InvalidTimes"]
/-- what the law finds as the field -/
def FldOf (K : PySem.W.Frag) (C : Addr) (fs : List (Str × V)) (tag : Str) (v : V) : Prop := (∃ fld, (tag, fld) ∈ efTab ∧ fs.lookup fld = some v ∧ PySem.W.findIn K (.ref C) fld = some none) ∨ (tag ∈ nfTab ∧ v = .non)
/-- what the law makes of a lambda: the answer, the tag, the field -/
def TTo (K : PySem.W.Frag) (a : Ad) : (XK → Hp → VK → Prop) → Hp → VK → Prop := fun tl H Q => ∀ H0, Same H H0 →
  tl (fun cls d H' => ∃ (C dd : Addr) (fs : List (Str × V)) (tag : Str), cls = .ref C ∧ d = some dd ∧ H' dd = some (.xd fs) ∧ fs.lookup ("tag" : Str) = some (.str tag) ∧ XfC K C ∧ PySem.W.findIn K (.ref C) "tag" = some none ∧
      (((PySem.W.exmAny K (.ref C) [.ref a.C_GaitError, .ref a.C_NotFound] = some false ∧ PySem.W.exmAny K (.ref C) [.ref a.C_ZeroDenominator, .ref a.C_EmptyHistory] = some true ∧ ∀ p H2, Same H' H2 → H' p = none → H2 p = some (.tup [.non, .str tag, .non]) → Q (.ref p) H2) ∨
        (PySem.W.exmAny K (.ref C) [.ref a.C_GaitError, .ref a.C_NotFound] = some true ∧ tag ∈ nfTab ∧ ∀ p H2, Same H' H2 → H' p = none → H2 p = some (.tup [.non, .str tag, .non]) → Q (.ref p) H2)) ∨
        (PySem.W.exmAny K (.ref C) [.ref a.C_GaitError, .ref a.C_NotFound] = some true ∧ ∃ (fld : Str) (v : V), (tag, fld) ∈ efTab ∧ fs.lookup fld = some v ∧ PySem.W.findIn K (.ref C) fld = some none ∧ ∀ p H2, Same H' H2 → H' p = none → H2 p = some (.tup [.non, .str tag, v]) → Q (.ref p) H2)))
    H0 (fun v H1 => ∀ p, H1 p = none → Q (.ref p) (upd H1 p (.tup [v, .str "", .non])))
/-- an error of the class C without a field is wanted -/
abbrev Rz0 (C : Addr) (tag : Str) (E : XK) (H : Hp) : Prop := ∀ dd H', Same H H' → H dd = none → H' dd = some (.xd [("tag", .str tag)]) → E (.ref C) (some dd) H'
theorem Rz0.same {C : Addr} {tag : Str} {E : XK} {H H1 : Hp} (s : Same H H1) (h : Rz0 C tag E H) : Rz0 C tag E H1 := fun dd H' s' n e => h dd H' (s.trans s') (s.free n) e

def qL : Str := (envOfC "law" (defScope s_p_law) 0 0 .none).qual ++ "<lambda>"
def tabs (a : Ad) : List (Addr × Str) := [(a.tL, qL)]
theorem tabs_in {a : Ad} : (a.tL, qL) ∈ tabs a := List.mem_cons_self
theorem tabs_uq {a : Ad} : ∀ p ∈ tabs a, p.1 = a.tL → p.2 = qL := fun p hp _ => by rw [List.mem_singleton.mp hp]
section
variable {P : Program} {w : World} {K : PySem.W.Frag} {mg : Str → Option Value} {base : Heap} {a : Ad}
def sp_i_GaitError (K : PySem.W.Frag) : Sp := fun vs H Q _ => ∃ (x C : Addr) (n : String) (b : List Value) (tag msg : Str), vs = [.ref x, .str tag, .str msg] ∧ ExB.Own K C "ValueError" n "ValueError.__init__" b ∧ PySem.W.takerIn K C "tag" = some none ∧ H x = some (exo x C none) ∧ ∀ d, H d = none → d ≠ x → Q .non (upd (upd H d (exd d [("tag", .str tag)])) x (exo x C (some d)))

theorem ok_i_GaitError (T : Txt K mg a) : FnOk P w K mg base CX0 1 a.f_i_GaitError a.fd_i_GaitError ["self", "tag", "message"] (sp_i_GaitError K) := by
  refine FunD.ok0 T.F_i_GaitError sc_i_GaitError (fun vs H Q E h => ?_) (fun cdv A outer s H vs Q E hr h => ?_)
  · obtain ⟨x, C, n, b, tag, msg, rfl, _⟩ := h
    rfl
  · obtain ⟨x, C, n, b, tag, msg, rfl, O, tk, hx, w⟩ := h
    refine ⟨_, (pss_cons (ps_expr (ExB.pe_binit (B := "ValueError") (initId := "ValueError.__init__") (by rfl) T.n_ValueError (by decide +kernel) (by decide) (by decide) (by kernel_rfl) (by decide +kernel) T.vV_ValueError (by decide +kernel) (pa_cons (pv 0) (pa_cons (pv 2) pa_nil))))
          (pss_one (ExB.ps_st (pv 0) (pv 1)))), ?_⟩
    refine ⟨.ref x, rfl, .str msg, rfl, x, C, _, n, b, rfl, by show 1 ≤ 1000; decide, O, hx, ?_⟩
    exact ⟨.str tag, rfl, .ref x, rfl, x, C, rfl, ⟨_, _, _, _, O⟩, tk, .inl ⟨hx, fun d nd ne => w d nd ne⟩⟩
end
section
variable {P : Program} {w : World} {K : PySem.W.Frag} {mg : Str → Option Value} {base : Heap} {a : Ad}
def sp_i_NotFound (K : PySem.W.Frag) : Sp := fun vs H Q _ => ∃ (x C : Addr) (n : String) (b : List Value) (tag msg : Str), vs = [.ref x, .str tag, .str msg] ∧ ExB.Own K C "LookupError" n "LookupError.__init__" b ∧ PySem.W.takerIn K C "tag" = some none ∧ H x = some (exo x C none) ∧ ∀ d, H d = none → d ≠ x → Q .non (upd (upd H d (exd d [("tag", .str tag)])) x (exo x C (some d)))

theorem ok_i_NotFound (T : Txt K mg a) : FnOk P w K mg base CX0 1 a.f_i_NotFound a.fd_i_NotFound ["self", "tag", "message"] (sp_i_NotFound K) := by
  refine FunD.ok0 T.F_i_NotFound sc_i_NotFound (fun vs H Q E h => ?_) (fun cdv A outer s H vs Q E hr h => ?_)
  · obtain ⟨x, C, n, b, tag, msg, rfl, _⟩ := h
    rfl
  · obtain ⟨x, C, n, b, tag, msg, rfl, O, tk, hx, w⟩ := h
    refine ⟨_, (pss_cons (ps_expr (ExB.pe_binit (B := "LookupError") (initId := "LookupError.__init__") (by rfl) T.n_LookupError (by decide +kernel) (by decide) (by decide) (by kernel_rfl) (by decide +kernel) T.vV_LookupError (by decide +kernel) (pa_cons (pv 0) (pa_cons (pv 2) pa_nil))))
          (pss_one (ExB.ps_st (pv 0) (pv 1)))), ?_⟩
    refine ⟨.ref x, rfl, .str msg, rfl, x, C, _, n, b, rfl, by show 1 ≤ 1000; decide, O, hx, ?_⟩
    exact ⟨.str tag, rfl, .ref x, rfl, x, C, rfl, ⟨_, _, _, _, O⟩, tk, .inl ⟨hx, fun d nd ne => w d nd ne⟩⟩
end
section
variable {P : Program} {w : World} {K : PySem.W.Frag} {mg : Str → Option Value} {base : Heap} {a : Ad}
def sp_i_InvalidTerm (K : PySem.W.Frag) : Sp := fun vs H Q _ => ∃ (x C : Addr) (n : String) (b : List Value) (z : Str), vs = [.ref x, .str z] ∧ (∀ c ∈ z.cps.toList, c < 16 ^ 8) ∧ z.length ≤ 1000 ∧ ExB.Own K C "ValueError" n "ValueError.__init__" b ∧ PySem.W.takerIn K C "tag" = some none ∧ PySem.W.takerIn K C "name" = some none ∧ H x = some (exo x C none) ∧ ∀ d H', H d = none → d ≠ x → (∀ b o, b ≠ x → H b = some o → H' b = some o) → H' d = some (exd d [("name", .str z), ("tag", .str "InvalidTerm")]) → H' x = some (exo x C (some d)) → Q .non H'
theorem raise_InvalidTerm (T : Txt K mg a) {E : XK} {H H2 : Hp} {σ : L2.St} {te : TE} {z : Str} (hz : (∀ c ∈ z.cps.toList, c < 16 ^ 8) ∧ z.length ≤ 1000) (ht : ∀ Q0 : VK, Q0 (.str z) H2 → te σ H2 Q0) (s2 : Same H H2) (h : Rz1 a.C_InvalidTerm "InvalidTerm" "name" (.str z) E H) : ExB.tMk a.C_InvalidTerm (sp_i_InvalidTerm K) [] (tCons te tNil) σ H2 fun cls d H' => E cls d H' := by
  refine ht _ ?_
  refine ⟨by show 1 ≤ 1000; decide, fun x nx => ?_⟩
  refine ⟨x, a.C_InvalidTerm, _, _, z, rfl, hz.1, hz.2, T.oC_InvalidTerm, taker_of T.no_InvalidTerm_tag, taker_of T.no_InvalidTerm_name, upd_same, fun d2 H' nd ne kp hd' hx' => ⟨rfl, d2, [("name", .str z), ("tag", .str "InvalidTerm")], hx', hd', ?_, ?_⟩⟩
  · rw [upd_ne ne] at nd; exact nd
  · rw [upd_ne ne] at nd
    refine h d2 _ (s2.trans fun c o e => ?_) (s2.free nd) upd_same
    have c1 := ne_of_none e nx
    have c2 := ne_of_none e nd
    rw [upd_ne c2, del_ne c1]
    exact kp c o c1 (by rw [upd_ne c1]; exact e)

theorem ok_i_InvalidTerm (T : Txt K mg a) : FnOk P w K mg base CX0 2 a.f_i_InvalidTerm a.fd_i_InvalidTerm ["self", "name"] (sp_i_InvalidTerm K) := by
  have G_i_GaitError := ok_i_GaitError (P := P) (w := w) (base := base) T
  obtain ⟨_, v_i_GaitError_3, b_i_GaitError_3⟩ := T.b_i_GaitError_3
  refine T.F_i_InvalidTerm.ok sc_i_InvalidTerm (fun vs H Q E h => ?_) (fun cdv A outer s H vs Q E hr h => ?_)
  · obtain ⟨x, C, n, b, i, rfl, _⟩ := h
    rfl
  · obtain ⟨x, C, n, b, z, rfl, hz, hl, O, tk, tk2, hx, w⟩ := h
    refine ⟨_, (pss_cons (ps_expr (ExB.pe_cinit G_i_GaitError (hr.mono (by first | decide | omega)) (by rfl) T.gC_GaitError T.rd_GaitError T.sg_GaitError T.fc_GaitError T.F_i_GaitError.kp b_i_GaitError_3 v_i_GaitError_3 pass0 (pa_cons (pv 0) (pa_cons pe_str (pa_cons (pe_joined (.cons pe_str (.cons (pe_fmtR (pv 1)) (.cons pe_str .nil)))) pa_nil)))))
          (pss_one (ExB.ps_st (pv 0) (pv 1)))), ?_⟩
    have tl := PySem.StrLaws.reprText_len z hz
    have l0 : (Str.empty).length = 0 := by decide +kernel
    have lp : ("the term of " : Str).length = 12 := by decide +kernel
    have ls : (" is not valid" : Str).length = 13 := by decide +kernel
    have la := Str.length_append
    refine ⟨.ref x, rfl, "the term of ", rfl, by size_fits, .str z, rfl, .inl ⟨z, rfl, sz (by omega), _, rfl, sz (by rw [la, la]; omega), _, rfl, sz (by rw [la, la, la]; omega), ?_⟩⟩
    refine ⟨x, C, n, b, "InvalidTerm", _, rfl, O, tk, hx, fun d nd ne => ?_⟩
    refine ⟨.str z, rfl, .ref x, rfl, x, C, rfl, ⟨_, _, _, _, O⟩, tk2, .inr ⟨d, _, upd_same, by rw [upd_ne ne]; exact upd_same, by show 1 ≤ 900; decide, ?_⟩⟩
    refine w d _ nd ne (fun b o hb e => ?_) upd_same ?_
    · rw [upd_ne (ne_of_none e nd), upd_ne hb, upd_ne (ne_of_none e nd)]; exact e
    · rw [upd_ne ne.symm]; exact upd_same
end
section
variable {P : Program} {w : World} {K : PySem.W.Frag} {mg : Str → Option Value} {base : Heap} {a : Ad}
def sp_i_InvalidName (K : PySem.W.Frag) : Sp := fun vs H Q _ => ∃ (x C : Addr) (n : String) (b : List Value) (z : Str), vs = [.ref x, .str z] ∧ (∀ c ∈ z.cps.toList, c < 16 ^ 8) ∧ z.length ≤ 1000 ∧ ExB.Own K C "ValueError" n "ValueError.__init__" b ∧ PySem.W.takerIn K C "tag" = some none ∧ PySem.W.takerIn K C "name" = some none ∧ H x = some (exo x C none) ∧ ∀ d H', H d = none → d ≠ x → (∀ b o, b ≠ x → H b = some o → H' b = some o) → H' d = some (exd d [("name", .str z), ("tag", .str "InvalidName")]) → H' x = some (exo x C (some d)) → Q .non H'
theorem raise_InvalidName (T : Txt K mg a) {E : XK} {H H2 : Hp} {σ : L2.St} {te : TE} {z : Str} (hz : (∀ c ∈ z.cps.toList, c < 16 ^ 8) ∧ z.length ≤ 1000) (ht : ∀ Q0 : VK, Q0 (.str z) H2 → te σ H2 Q0) (s2 : Same H H2) (h : Rz1 a.C_InvalidName "InvalidName" "name" (.str z) E H) : ExB.tMk a.C_InvalidName (sp_i_InvalidName K) [] (tCons te tNil) σ H2 fun cls d H' => E cls d H' := by
  refine ht _ ?_
  refine ⟨by show 1 ≤ 1000; decide, fun x nx => ?_⟩
  refine ⟨x, a.C_InvalidName, _, _, z, rfl, hz.1, hz.2, T.oC_InvalidName, taker_of T.no_InvalidName_tag, taker_of T.no_InvalidName_name, upd_same, fun d2 H' nd ne kp hd' hx' => ⟨rfl, d2, [("name", .str z), ("tag", .str "InvalidName")], hx', hd', ?_, ?_⟩⟩
  · rw [upd_ne ne] at nd; exact nd
  · rw [upd_ne ne] at nd
    refine h d2 _ (s2.trans fun c o e => ?_) (s2.free nd) upd_same
    have c1 := ne_of_none e nx
    have c2 := ne_of_none e nd
    rw [upd_ne c2, del_ne c1]
    exact kp c o c1 (by rw [upd_ne c1]; exact e)

theorem ok_i_InvalidName (T : Txt K mg a) : FnOk P w K mg base CX0 2 a.f_i_InvalidName a.fd_i_InvalidName ["self", "name"] (sp_i_InvalidName K) := by
  have G_i_GaitError := ok_i_GaitError (P := P) (w := w) (base := base) T
  obtain ⟨_, v_i_GaitError_3, b_i_GaitError_3⟩ := T.b_i_GaitError_3
  refine T.F_i_InvalidName.ok sc_i_InvalidName (fun vs H Q E h => ?_) (fun cdv A outer s H vs Q E hr h => ?_)
  · obtain ⟨x, C, n, b, i, rfl, _⟩ := h
    rfl
  · obtain ⟨x, C, n, b, z, rfl, hz, hl, O, tk, tk2, hx, w⟩ := h
    refine ⟨_, (pss_cons (ps_expr (ExB.pe_cinit G_i_GaitError (hr.mono (by first | decide | omega)) (by rfl) T.gC_GaitError T.rd_GaitError T.sg_GaitError T.fc_GaitError T.F_i_GaitError.kp b_i_GaitError_3 v_i_GaitError_3 pass0 (pa_cons (pv 0) (pa_cons pe_str (pa_cons (pe_joined (.cons (pe_fmtR (pv 1)) (.cons pe_str .nil))) pa_nil)))))
          (pss_one (ExB.ps_st (pv 0) (pv 1)))), ?_⟩
    have tl := PySem.StrLaws.reprText_len z hz
    have l0 : (Str.empty).length = 0 := by decide +kernel
    have lp : ("" : Str).length = 0 := by decide +kernel
    have ls : (" is not a name" : Str).length = 14 := by decide +kernel
    have la := Str.length_append
    refine ⟨.ref x, rfl, .str z, rfl, .inl ⟨z, rfl, sz (by omega), _, rfl, sz (by rw [la]; omega), _, rfl, sz (by rw [la, la]; omega), ?_⟩⟩
    refine ⟨x, C, n, b, "InvalidName", _, rfl, O, tk, hx, fun d nd ne => ?_⟩
    refine ⟨.str z, rfl, .ref x, rfl, x, C, rfl, ⟨_, _, _, _, O⟩, tk2, .inr ⟨d, _, upd_same, by rw [upd_ne ne]; exact upd_same, by show 1 ≤ 900; decide, ?_⟩⟩
    refine w d _ nd ne (fun b o hb e => ?_) upd_same ?_
    · rw [upd_ne (ne_of_none e nd), upd_ne hb, upd_ne (ne_of_none e nd)]; exact e
    · rw [upd_ne ne.symm]; exact upd_same
end
section
variable {P : Program} {w : World} {K : PySem.W.Frag} {mg : Str → Option Value} {base : Heap} {a : Ad}
def sp_i_InvalidCount (K : PySem.W.Frag) : Sp := fun vs H Q _ => ∃ (x C : Addr) (n : String) (b : List Value) (i : Int), vs = [.ref x, .int i] ∧ i.natAbs < 2 ^ 60 ∧ ExB.Own K C "ValueError" n "ValueError.__init__" b ∧ PySem.W.takerIn K C "tag" = some none ∧ PySem.W.takerIn K C "quantity" = some none ∧ H x = some (exo x C none) ∧ ∀ d H', H d = none → d ≠ x → (∀ b o, b ≠ x → H b = some o → H' b = some o) → H' d = some (exd d [("quantity", .int i), ("tag", .str "InvalidCount")]) → H' x = some (exo x C (some d)) → Q .non H'
theorem raise_InvalidCount (T : Txt K mg a) {E : XK} {H H2 : Hp} {σ : L2.St} {te : TE} {i : Int} (hz : i.natAbs < 2 ^ 60) (ht : ∀ Q0 : VK, Q0 (.int i) H2 → te σ H2 Q0) (s2 : Same H H2) (h : Rz1 a.C_InvalidCount "InvalidCount" "quantity" (.int i) E H) : ExB.tMk a.C_InvalidCount (sp_i_InvalidCount K) [] (tCons te tNil) σ H2 fun cls d H' => E cls d H' := by
  refine ht _ ?_
  refine ⟨by show 1 ≤ 1000; decide, fun x nx => ?_⟩
  refine ⟨x, a.C_InvalidCount, _, _, i, rfl, hz, T.oC_InvalidCount, taker_of T.no_InvalidCount_tag, taker_of T.no_InvalidCount_quantity, upd_same, fun d2 H' nd ne kp hd' hx' => ⟨rfl, d2, [("quantity", .int i), ("tag", .str "InvalidCount")], hx', hd', ?_, ?_⟩⟩
  · rw [upd_ne ne] at nd; exact nd
  · rw [upd_ne ne] at nd
    refine h d2 _ (s2.trans fun c o e => ?_) (s2.free nd) upd_same
    have c1 := ne_of_none e nx
    have c2 := ne_of_none e nd
    rw [upd_ne c2, del_ne c1]
    exact kp c o c1 (by rw [upd_ne c1]; exact e)

theorem ok_i_InvalidCount (T : Txt K mg a) : FnOk P w K mg base CX0 2 a.f_i_InvalidCount a.fd_i_InvalidCount ["self", "quantity"] (sp_i_InvalidCount K) := by
  have G_i_GaitError := ok_i_GaitError (P := P) (w := w) (base := base) T
  obtain ⟨_, v_i_GaitError_3, b_i_GaitError_3⟩ := T.b_i_GaitError_3
  refine T.F_i_InvalidCount.ok sc_i_InvalidCount (fun vs H Q E h => ?_) (fun cdv A outer s H vs Q E hr h => ?_)
  · obtain ⟨x, C, n, b, i, rfl, _⟩ := h
    rfl
  · obtain ⟨x, C, n, b, i, rfl, hi, O, tk, tk2, hx, w⟩ := h
    refine ⟨_, (pss_cons (ps_expr (ExB.pe_cinit G_i_GaitError (hr.mono (by first | decide | omega)) (by rfl) T.gC_GaitError T.rd_GaitError T.sg_GaitError T.fc_GaitError T.F_i_GaitError.kp b_i_GaitError_3 v_i_GaitError_3 pass0 (pa_cons (pv 0) (pa_cons pe_str (pa_cons (pe_joined (.cons pe_str (.cons (pe_fmt (pv 1)) (.cons pe_str .nil)))) pa_nil)))))
          (pss_one (ExB.ps_st (pv 0) (pv 1)))), ?_⟩
    have lg : i.natAbs.log2 < 1920 := Nat.lt_of_lt_of_le (PySem.Flt.log2_lt_of (by decide) hi) (by decide)
    have tl : (Str.ofString (toString i)).length ≤ 1921 := by rw [PySem.ofString_length]; exact PySem.int_text_length_le (by decide) lg
    have l0 : (Str.empty).length = 0 := by decide +kernel
    have lp : ("a system cannot have " : Str).length = 21 := by decide +kernel
    have ls : (" rows" : Str).length = 5 := by decide +kernel
    have la := Str.length_append
    refine ⟨.ref x, rfl, "a system cannot have ", rfl, by size_fits, .int i, rfl, .inr ⟨i, rfl, lg, _, rfl, sz (by rw [la, la]; omega), _, rfl, sz (by rw [la, la, la]; omega), ?_⟩⟩
    refine ⟨x, C, n, b, "InvalidCount", _, rfl, O, tk, hx, fun d nd ne => ?_⟩
    refine ⟨.int i, rfl, .ref x, rfl, x, C, rfl, ⟨_, _, _, _, O⟩, tk2, .inr ⟨d, _, upd_same, by rw [upd_ne ne]; exact upd_same, by show 1 ≤ 900; decide, ?_⟩⟩
    refine w d _ nd ne (fun b o hb e => ?_) upd_same ?_
    · rw [upd_ne (ne_of_none e nd), upd_ne hb, upd_ne (ne_of_none e nd)]; exact e
    · rw [upd_ne ne.symm]; exact upd_same
end
section
variable {P : Program} {w : World} {K : PySem.W.Frag} {mg : Str → Option Value} {base : Heap} {a : Ad}
def sp_i_InvalidTimes (K : PySem.W.Frag) : Sp := fun vs H Q _ => ∃ (x C : Addr) (n : String) (b : List Value), vs = [.ref x] ∧ ExB.Own K C "ValueError" n "ValueError.__init__" b ∧ PySem.W.takerIn K C "tag" = some none ∧ H x = some (exo x C none) ∧ ∀ d, H d = none → d ≠ x → Q .non (upd (upd H d (exd d [("tag", .str "InvalidTimes")])) x (exo x C (some d)))
theorem raise_InvalidTimes (T : Txt K mg a) {E : XK} {H H2 : Hp} {σ : L2.St} (s2 : Same H H2) (h : Rz0 a.C_InvalidTimes "InvalidTimes" E H) : ExB.tMk a.C_InvalidTimes (sp_i_InvalidTimes K) [] tNil σ H2 fun cls d H' => E cls d H' := by
  refine ⟨by show 0 ≤ 1000; decide, fun x nx => ?_⟩
  refine ⟨x, a.C_InvalidTimes, _, _, rfl, T.oC_InvalidTimes, taker_of T.no_InvalidTimes_tag, upd_same, fun d2 nd ne => ⟨rfl, d2, [("tag", .str "InvalidTimes")], upd_same, ?_, ?_, ?_⟩⟩
  · rw [upd_ne ne, upd_same]
  · rw [upd_ne ne] at nd; exact nd
  · rw [upd_ne ne] at nd
    exact h d2 _ (s2.trans (Same.made (C := a.C_InvalidTimes) nx nd)) (s2.free nd) upd_same

theorem ok_i_InvalidTimes (T : Txt K mg a) : FnOk P w K mg base CX0 2 a.f_i_InvalidTimes a.fd_i_InvalidTimes ["self"] (sp_i_InvalidTimes K) := by
  have G_i_GaitError := ok_i_GaitError (P := P) (w := w) (base := base) T
  obtain ⟨_, v_i_GaitError_3, b_i_GaitError_3⟩ := T.b_i_GaitError_3
  refine T.F_i_InvalidTimes.ok sc_i_InvalidTimes (fun vs H Q E h => ?_) (fun cdv A outer s H vs Q E hr h => ?_)
  · obtain ⟨x, C, n, b, rfl, _⟩ := h
    rfl
  · obtain ⟨x, C, n, b, rfl, O, tk, hx, w⟩ := h
    refine ⟨_, (pss_one (ps_expr (ExB.pe_cinit G_i_GaitError (hr.mono (by first | decide | omega)) (by rfl) T.gC_GaitError T.rd_GaitError T.sg_GaitError T.fc_GaitError T.F_i_GaitError.kp b_i_GaitError_3 v_i_GaitError_3 pass0 (pa_cons (pv 0) (pa_cons pe_str (pa_cons pe_str pa_nil)))))), ?_⟩
    exact ⟨.ref x, rfl, x, C, n, b, "InvalidTimes", _, rfl, O, tk, hx, fun d nd ne => w d nd ne⟩
end
section
variable {P : Program} {w : World} {K : PySem.W.Frag} {mg : Str → Option Value} {base : Heap} {a : Ad}
def sp_i_InvalidRound (K : PySem.W.Frag) : Sp := fun vs H Q _ => ∃ (x C : Addr) (n : String) (b : List Value) (i : Int), vs = [.ref x, .int i] ∧ ExB.Own K C "ValueError" n "ValueError.__init__" b ∧ PySem.W.takerIn K C "tag" = some none ∧ PySem.W.takerIn K C "number" = some none ∧ H x = some (exo x C none) ∧ ∀ d H', H d = none → d ≠ x → (∀ b o, b ≠ x → H b = some o → H' b = some o) → H' d = some (exd d [("number", .int i), ("tag", .str "InvalidRound")]) → H' x = some (exo x C (some d)) → Q .non H'
theorem raise_InvalidRound (T : Txt K mg a) {E : XK} {H H2 : Hp} {σ : L2.St} {te : TE} {i : Int} (ht : ∀ Q0 : VK, Q0 (.int i) H2 → te σ H2 Q0) (s2 : Same H H2) (h : Rz1 a.C_InvalidRound "InvalidRound" "number" (.int i) E H) : ExB.tMk a.C_InvalidRound (sp_i_InvalidRound K) [] (tCons te tNil) σ H2 fun cls d H' => E cls d H' := by
  refine ht _ ?_
  refine ⟨by show 1 ≤ 1000; decide, fun x nx => ?_⟩
  refine ⟨x, a.C_InvalidRound, _, _, i, rfl, T.oC_InvalidRound, taker_of T.no_InvalidRound_tag, taker_of T.no_InvalidRound_number, upd_same, fun d2 H' nd ne kp hd' hx' => ⟨rfl, d2, [("number", .int i), ("tag", .str "InvalidRound")], hx', hd', ?_, ?_⟩⟩
  · rw [upd_ne ne] at nd; exact nd
  · rw [upd_ne ne] at nd
    refine h d2 _ (s2.trans fun c o e => ?_) (s2.free nd) upd_same
    have c1 := ne_of_none e nx
    have c2 := ne_of_none e nd
    rw [upd_ne c2, del_ne c1]
    exact kp c o c1 (by rw [upd_ne c1]; exact e)

theorem ok_i_InvalidRound (T : Txt K mg a) : FnOk P w K mg base CX0 2 a.f_i_InvalidRound a.fd_i_InvalidRound ["self", "number"] (sp_i_InvalidRound K) := by
  have G_i_GaitError := ok_i_GaitError (P := P) (w := w) (base := base) T
  obtain ⟨_, v_i_GaitError_3, b_i_GaitError_3⟩ := T.b_i_GaitError_3
  refine T.F_i_InvalidRound.ok sc_i_InvalidRound (fun vs H Q E h => ?_) (fun cdv A outer s H vs Q E hr h => ?_)
  · obtain ⟨x, C, n, b, i, rfl, _⟩ := h
    rfl
  · obtain ⟨x, C, n, b, i, rfl, O, tk, tk2, hx, w⟩ := h
    refine ⟨_, (pss_cons (ps_expr (ExB.pe_cinit G_i_GaitError (hr.mono (by first | decide | omega)) (by rfl) T.gC_GaitError T.rd_GaitError T.sg_GaitError T.fc_GaitError T.F_i_GaitError.kp b_i_GaitError_3 v_i_GaitError_3 pass0 (pa_cons (pv 0) (pa_cons pe_str (pa_cons pe_str pa_nil)))))
          (pss_one (ExB.ps_st (pv 0) (pv 1)))), ?_⟩
    refine ⟨.ref x, rfl, x, C, n, b, "InvalidRound", _, rfl, O, tk, hx, fun d nd ne => ?_⟩
    refine ⟨.int i, rfl, .ref x, rfl, x, C, rfl, ⟨_, _, _, _, O⟩, tk2, .inr ⟨d, _, upd_same, by rw [upd_ne ne]; exact upd_same, by show 1 ≤ 900; decide, ?_⟩⟩
    refine w d _ nd ne (fun b o hb e => ?_) upd_same ?_
    · rw [upd_ne (ne_of_none e nd), upd_ne hb, upd_ne (ne_of_none e nd)]; exact e
    · rw [upd_ne ne.symm]; exact upd_same
end
section
variable {P : Program} {w : World} {K : PySem.W.Frag} {mg : Str → Option Value} {base : Heap} {a : Ad}
def sp_i_DuplicateName (K : PySem.W.Frag) : Sp := fun vs H Q _ => ∃ (x C : Addr) (n : String) (b : List Value) (z : Str), vs = [.ref x, .str z] ∧ (∀ c ∈ z.cps.toList, c < 16 ^ 8) ∧ z.length ≤ 1000 ∧ ExB.Own K C "ValueError" n "ValueError.__init__" b ∧ PySem.W.takerIn K C "tag" = some none ∧ PySem.W.takerIn K C "name" = some none ∧ H x = some (exo x C none) ∧ ∀ d H', H d = none → d ≠ x → (∀ b o, b ≠ x → H b = some o → H' b = some o) → H' d = some (exd d [("name", .str z), ("tag", .str "DuplicateName")]) → H' x = some (exo x C (some d)) → Q .non H'
theorem raise_DuplicateName (T : Txt K mg a) {E : XK} {H H2 : Hp} {σ : L2.St} {te : TE} {z : Str} (hz : (∀ c ∈ z.cps.toList, c < 16 ^ 8) ∧ z.length ≤ 1000) (ht : ∀ Q0 : VK, Q0 (.str z) H2 → te σ H2 Q0) (s2 : Same H H2) (h : Rz1 a.C_DuplicateName "DuplicateName" "name" (.str z) E H) : ExB.tMk a.C_DuplicateName (sp_i_DuplicateName K) [] (tCons te tNil) σ H2 fun cls d H' => E cls d H' := by
  refine ht _ ?_
  refine ⟨by show 1 ≤ 1000; decide, fun x nx => ?_⟩
  refine ⟨x, a.C_DuplicateName, _, _, z, rfl, hz.1, hz.2, T.oC_DuplicateName, taker_of T.no_DuplicateName_tag, taker_of T.no_DuplicateName_name, upd_same, fun d2 H' nd ne kp hd' hx' => ⟨rfl, d2, [("name", .str z), ("tag", .str "DuplicateName")], hx', hd', ?_, ?_⟩⟩
  · rw [upd_ne ne] at nd; exact nd
  · rw [upd_ne ne] at nd
    refine h d2 _ (s2.trans fun c o e => ?_) (s2.free nd) upd_same
    have c1 := ne_of_none e nx
    have c2 := ne_of_none e nd
    rw [upd_ne c2, del_ne c1]
    exact kp c o c1 (by rw [upd_ne c1]; exact e)

theorem ok_i_DuplicateName (T : Txt K mg a) : FnOk P w K mg base CX0 2 a.f_i_DuplicateName a.fd_i_DuplicateName ["self", "name"] (sp_i_DuplicateName K) := by
  have G_i_GaitError := ok_i_GaitError (P := P) (w := w) (base := base) T
  obtain ⟨_, v_i_GaitError_3, b_i_GaitError_3⟩ := T.b_i_GaitError_3
  refine T.F_i_DuplicateName.ok sc_i_DuplicateName (fun vs H Q E h => ?_) (fun cdv A outer s H vs Q E hr h => ?_)
  · obtain ⟨x, C, n, b, i, rfl, _⟩ := h
    rfl
  · obtain ⟨x, C, n, b, z, rfl, hz, hl, O, tk, tk2, hx, w⟩ := h
    refine ⟨_, (pss_cons (ps_expr (ExB.pe_cinit G_i_GaitError (hr.mono (by first | decide | omega)) (by rfl) T.gC_GaitError T.rd_GaitError T.sg_GaitError T.fc_GaitError T.F_i_GaitError.kp b_i_GaitError_3 v_i_GaitError_3 pass0 (pa_cons (pv 0) (pa_cons pe_str (pa_cons (pe_joined (.cons pe_str (.cons (pe_fmtR (pv 1)) (.cons pe_str .nil)))) pa_nil)))))
          (pss_one (ExB.ps_st (pv 0) (pv 1)))), ?_⟩
    have tl := PySem.StrLaws.reprText_len z hz
    have l0 : (Str.empty).length = 0 := by decide +kernel
    have lp : ("the name " : Str).length = 9 := by decide +kernel
    have ls : (" is taken" : Str).length = 9 := by decide +kernel
    have la := Str.length_append
    refine ⟨.ref x, rfl, "the name ", rfl, by size_fits, .str z, rfl, .inl ⟨z, rfl, sz (by omega), _, rfl, sz (by rw [la, la]; omega), _, rfl, sz (by rw [la, la, la]; omega), ?_⟩⟩
    refine ⟨x, C, n, b, "DuplicateName", _, rfl, O, tk, hx, fun d nd ne => ?_⟩
    refine ⟨.str z, rfl, .ref x, rfl, x, C, rfl, ⟨_, _, _, _, O⟩, tk2, .inr ⟨d, _, upd_same, by rw [upd_ne ne]; exact upd_same, by show 1 ≤ 900; decide, ?_⟩⟩
    refine w d _ nd ne (fun b o hb e => ?_) upd_same ?_
    · rw [upd_ne (ne_of_none e nd), upd_ne hb, upd_ne (ne_of_none e nd)]; exact e
    · rw [upd_ne ne.symm]; exact upd_same
end
section
variable {P : Program} {w : World} {K : PySem.W.Frag} {mg : Str → Option Value} {base : Heap} {a : Ad}
def sp_i_UnknownEvent (K : PySem.W.Frag) : Sp := fun vs H Q _ => ∃ (x C : Addr) (n : String) (b : List Value) (z : Str), vs = [.ref x, .str z] ∧ (∀ c ∈ z.cps.toList, c < 16 ^ 8) ∧ z.length ≤ 1000 ∧ ExB.Own K C "LookupError" n "LookupError.__init__" b ∧ PySem.W.takerIn K C "tag" = some none ∧ PySem.W.takerIn K C "name" = some none ∧ H x = some (exo x C none) ∧ ∀ d H', H d = none → d ≠ x → (∀ b o, b ≠ x → H b = some o → H' b = some o) → H' d = some (exd d [("name", .str z), ("tag", .str "UnknownEvent")]) → H' x = some (exo x C (some d)) → Q .non H'
theorem raise_UnknownEvent (T : Txt K mg a) {E : XK} {H H2 : Hp} {σ : L2.St} {te : TE} {z : Str} (hz : (∀ c ∈ z.cps.toList, c < 16 ^ 8) ∧ z.length ≤ 1000) (ht : ∀ Q0 : VK, Q0 (.str z) H2 → te σ H2 Q0) (s2 : Same H H2) (h : Rz1 a.C_UnknownEvent "UnknownEvent" "name" (.str z) E H) : ExB.tMk a.C_UnknownEvent (sp_i_UnknownEvent K) [] (tCons te tNil) σ H2 fun cls d H' => E cls d H' := by
  refine ht _ ?_
  refine ⟨by show 1 ≤ 1000; decide, fun x nx => ?_⟩
  refine ⟨x, a.C_UnknownEvent, _, _, z, rfl, hz.1, hz.2, T.oC_UnknownEvent, taker_of T.no_UnknownEvent_tag, taker_of T.no_UnknownEvent_name, upd_same, fun d2 H' nd ne kp hd' hx' => ⟨rfl, d2, [("name", .str z), ("tag", .str "UnknownEvent")], hx', hd', ?_, ?_⟩⟩
  · rw [upd_ne ne] at nd; exact nd
  · rw [upd_ne ne] at nd
    refine h d2 _ (s2.trans fun c o e => ?_) (s2.free nd) upd_same
    have c1 := ne_of_none e nx
    have c2 := ne_of_none e nd
    rw [upd_ne c2, del_ne c1]
    exact kp c o c1 (by rw [upd_ne c1]; exact e)

theorem ok_i_UnknownEvent (T : Txt K mg a) : FnOk P w K mg base CX0 2 a.f_i_UnknownEvent a.fd_i_UnknownEvent ["self", "name"] (sp_i_UnknownEvent K) := by
  have G_i_NotFound := ok_i_NotFound (P := P) (w := w) (base := base) T
  obtain ⟨_, v_i_NotFound_3, b_i_NotFound_3⟩ := T.b_i_NotFound_3
  refine T.F_i_UnknownEvent.ok sc_i_UnknownEvent (fun vs H Q E h => ?_) (fun cdv A outer s H vs Q E hr h => ?_)
  · obtain ⟨x, C, n, b, i, rfl, _⟩ := h
    rfl
  · obtain ⟨x, C, n, b, z, rfl, hz, hl, O, tk, tk2, hx, w⟩ := h
    refine ⟨_, (pss_cons (ps_expr (ExB.pe_cinit G_i_NotFound (hr.mono (by first | decide | omega)) (by rfl) T.gC_NotFound T.rd_NotFound T.sg_NotFound T.fc_NotFound T.F_i_NotFound.kp b_i_NotFound_3 v_i_NotFound_3 pass0 (pa_cons (pv 0) (pa_cons pe_str (pa_cons (pe_joined (.cons pe_str (.cons (pe_fmtR (pv 1)) .nil))) pa_nil)))))
          (pss_one (ExB.ps_st (pv 0) (pv 1)))), ?_⟩
    have rl := PySem.StrLaws.reprText_len z hz
    refine ⟨.ref x, rfl, "no event has the name ", rfl, by size_fits, .str z, rfl, .inl ⟨z, rfl, sz (by omega), _, rfl, ?_, ?_⟩⟩
    · rw [Str.length_append]
      have : (Str.empty ++ ("no event has the name " : Str)).length = 22 := by decide +kernel
      exact sz (by omega)
    · skip
      refine ⟨x, C, n, b, "UnknownEvent", _, rfl, O, tk, hx, fun d nd ne => ?_⟩
      refine ⟨.str z, rfl, .ref x, rfl, x, C, rfl, ⟨_, _, _, _, O⟩, tk2, .inr ⟨d, _, upd_same, by rw [upd_ne ne]; exact upd_same, by show 1 ≤ 900; decide, ?_⟩⟩
      refine w d _ nd ne (fun b o hb e => ?_) upd_same ?_
      · rw [upd_ne (ne_of_none e nd), upd_ne hb, upd_ne (ne_of_none e nd)]; exact e
      · rw [upd_ne ne.symm]; exact upd_same
end
section
variable {P : Program} {w : World} {K : PySem.W.Frag} {mg : Str → Option Value} {base : Heap} {a : Ad}
def sp_i_ZeroDenominator (K : PySem.W.Frag) : Sp := fun vs H Q _ => ∃ (x C : Addr) (n : String) (b : List Value), vs = [.ref x] ∧ ExB.Own K C "ZeroDivisionError" n "ZeroDivisionError.__init__" b ∧ PySem.W.takerIn K C "tag" = some none ∧ H x = some (exo x C none) ∧ ∀ d, H d = none → d ≠ x → Q .non (upd (upd H d (exd d [("tag", .str "ZeroDenominator")])) x (exo x C (some d)))

theorem ok_i_ZeroDenominator (T : Txt K mg a) : FnOk P w K mg base CX0 1 a.f_i_ZeroDenominator a.fd_i_ZeroDenominator ["self"] (sp_i_ZeroDenominator K) := by
  refine T.F_i_ZeroDenominator.ok sc_i_ZeroDenominator (fun vs H Q E h => ?_) (fun cdv A outer s H vs Q E hr h => ?_)
  · obtain ⟨x, C, n, b, rfl, _⟩ := h
    rfl
  · obtain ⟨x, C, n, b, rfl, O, tk, hx, w⟩ := h
    refine ⟨_, (pss_cons (ps_expr (ExB.pe_binit (B := "ZeroDivisionError") (initId := "ZeroDivisionError.__init__") (by rfl) T.n_ZeroDivisionError (by decide +kernel) (by decide) (by decide) (by kernel_rfl) (by decide +kernel) T.vV_ZeroDivisionError (by decide +kernel) (pa_cons (pv 0) (pa_cons pe_str pa_nil))))
          (pss_one (ExB.ps_st (pv 0) pe_str))), ?_⟩
    refine ⟨.ref x, rfl, x, C, _, n, b, rfl, by show 1 ≤ 1000; decide, O, hx, ?_⟩
    exact ⟨.ref x, rfl, x, C, rfl, ⟨_, _, _, _, O⟩, tk, .inl ⟨hx, fun d nd ne => w d nd ne⟩⟩
end
section
variable {P : Program} {w : World} {K : PySem.W.Frag} {mg : Str → Option Value} {base : Heap} {a : Ad}
def sp_p_greatest_divisor (_ : PySem.W.Frag) : Sp := fun vs H Q _ => ∃ (n d : Int), vs = [.int n, .int d] ∧ Q (.int (Int.gcd n d : Int)) H

theorem ok_p_greatest_divisor (T : Txt K mg a) : FnOk P w K mg base CX0 1 a.f_p_greatest_divisor a.fd_p_greatest_divisor ["one", "other"] (sp_p_greatest_divisor K) := by
  refine T.F_p_greatest_divisor.ok sc_p_greatest_divisor (fun vs H Q E h => ?_) (fun cdv A outer s H vs Q E hr h => ?_)
  · obtain ⟨n, d, rfl, _⟩ := h
    rfl
  · obtain ⟨n, d, rfl, w⟩ := h
    refine ⟨_, (pss_cons (ps_while PassesOwn.never (pt_cmpR op_ne (pv 1) pe_int (nomark _)) (pss_one (ps_par (i := 0) (j := 1) (by rfl) sc_p_greatest_divisor.nd rfl rfl (by decide) rfl rfl (pa_cons (pv 1) (pa_cons (pe_op op_modN (pv 0) (pv 1)) pa_nil)) (by rfl))))
          (pss_one (ps_ret (pe_callB call_abs (by rfl) T.n_abs (by decide +kernel) (pa_cons (pv 0) pa_nil))))), ?_⟩
    refine ⟨fun m σ H' => ∃ x y : Int, σ = [some (.int x), some (.int y)] ∧ Int.gcd x y = Int.gcd n d ∧ m = y.natAbs ∧ H' = H, ⟨_, n, d, rfl, rfl, rfl, rfl⟩, ?_⟩
    rintro m σ H' ⟨x, y, rfl, hg, rfl, hH⟩
    obtain rfl : H = H' := hH.symm
    refine ⟨.int y, rfl, rfl, _, rfl, ite2 (fun e => ?_) (fun e => ?_)⟩
    · have y1 : y ≠ 0 := fun z => by subst z; simp at e
      refine ⟨fun σ' H' => σ' = [some (.int y), some (.int (x.fmod y))] ∧ H' = H, ?_, ?_⟩
      · rintro σ' H' ⟨rfl, rfl⟩
        exact ⟨(x.fmod y).natAbs, fmod_lt y1, y, x.fmod y, rfl, gcd_fmod.trans hg, rfl, rfl⟩
      · exact ⟨.int y, rfl, .int x, rfl, .int y, rfl, x, y, rfl, rfl, y1, _, _, rfl, rfl, rfl⟩
    · have y1 : y = 0 := by
        by_cases z : y = 0
        · exact z
        · exfalso; apply e; simp [z]
      subst y1
      refine ⟨.int x, rfl, x, rfl, ?_⟩
      have hx : (if x < 0 then -x else x) = (Int.gcd n d : Int) := by
        rw [← hg, Int.gcd_zero_right]
        split <;> omega
      rw [hx]
      exact w
end
section
variable {P : Program} {w : World} {K : PySem.W.Frag} {mg : Str → Option Value} {base : Heap} {a : Ad}
def sp_p_least_multiple (_ : PySem.W.Frag) : Sp := fun vs H Q _ => ∃ (a b : Int) (A B : Nat), vs = [.int a, .int b] ∧ 0 < a ∧ 0 < b ∧ a.natAbs < 2 ^ A ∧ b.natAbs < 2 ^ B ∧ 0 < A ∧ 0 < B ∧ A ≤ 8000 ∧ B ≤ 8000 ∧ ∀ m : Int, 0 < m → a ∣ m → b ∣ m → m ≤ a * b → (∀ c, a ∣ c → b ∣ c → m ∣ c) → Q (.int m) H

theorem ok_p_least_multiple (T : Txt K mg a) : FnOk P w K mg base CX0 2 a.f_p_least_multiple a.fd_p_least_multiple ["one", "other"] (sp_p_least_multiple K) := by
  have G_p_greatest_divisor := ok_p_greatest_divisor (P := P) (w := w) (base := base) T
  refine T.F_p_least_multiple.ok sc_p_least_multiple (fun vs H Q E h => ?_) (fun cdv A outer s H vs Q E hr h => ?_)
  · obtain ⟨a, b, A, B, rfl, _⟩ := h
    rfl
  · obtain ⟨a, b, A, B, rfl, a0, b0, aA, bB, A0, B0, A8, B8, w⟩ := h
    refine ⟨_, (pss_one (ps_ret (pe_op op_mulW (pe_op op_fdivW (pv 0) (pe_call G_p_greatest_divisor (hr.mono (by first | decide | omega)) (by rfl) T.g_p_greatest_divisor T.F_p_greatest_divisor.kp T.b_p_greatest_divisor .nil pass0 (pa_cons (pv 0) (pa_cons (pv 1) pa_nil)))) (pv 1)))), ?_⟩
    have hg : Int.gcd a b ≠ 0 := fun e => by have := (Int.gcd_eq_zero_iff.mp e).1; omega
    have g0 : (0 : Int) < (Int.gcd a b : Int) := by omega
    refine ⟨.int a, rfl, .int a, rfl, .int b, rfl, a, b, rfl, ?_⟩
    obtain ⟨c, hc⟩ := Int.gcd_dvd_left (a := a) (b := b)
    obtain ⟨d, hd⟩ := Int.gcd_dvd_right (a := a) (b := b)
    have least : ∀ m x : Int, m * (Int.gcd a b : Int) = a * b → a ∣ x → b ∣ x → m ∣ x := fun m x e h1 h2 => lcm_least rfl e a0 b0 h1 h2
    generalize (Int.gcd a b : Int) = g at *
    have c0 : 0 < c := Int.pos_of_mul_pos_right (by rw [← hc]; exact a0) g0
    have d0 : 0 < d := Int.pos_of_mul_pos_right (by rw [← hd]; exact b0) g0
    have ga : g ≤ a := by rw [hc]; have := Int.mul_le_mul_of_nonneg_left (show (1 : Int) ≤ c by omega) (show 0 ≤ g by omega); omega
    have ca : c ≤ a := by rw [hc]; have := Int.mul_le_mul_of_nonneg_right (show (1 : Int) ≤ g by omega) (show 0 ≤ c by omega); omega
    have hq : a / g = c := by rw [hc]; exact Int.mul_ediv_cancel_left c (by omega)
    have gA : g.natAbs < 2 ^ A := by have : g.natAbs ≤ a.natAbs := by omega
                                     omega
    have cA : c.natAbs < 2 ^ A := by have : c.natAbs ≤ a.natAbs := by omega
                                     omega
    refine ⟨a, g, rfl, rfl, wide_div g0 gA A0 (by omega), .int b, rfl, a / g, b, rfl, rfl, ?_, ?_⟩
    · rw [hq]; exact wide_mul cA bB A0 B0 (by omega)
    rw [hq]
    refine w (c * b) (Int.mul_pos c0 b0) ⟨d, ?_⟩ ⟨c, Int.mul_comm c b⟩ (Int.mul_le_mul_of_nonneg_right ca (by omega)) (fun x h1 h2 => least _ x (by rw [hc, Int.mul_comm (c * b) g, Int.mul_assoc]) h1 h2)
    rw [hc, hd, Int.mul_comm c (g * d), Int.mul_assoc, Int.mul_assoc, Int.mul_comm d c]
end
section
variable {P : Program} {w : World} {K : PySem.W.Frag} {mg : Str → Option Value} {base : Heap} {a : Ad}
def sp_p_common_denominator (K : PySem.W.Frag) : Sp := fun vs H Q _ => ∃ (l : Addr) (xs : List V) (fs : List QQ) (D : Int) (A : Nat), vs = [.ref l] ∧ SqL K H l xs ∧ AllG (fun v f => Fr K H v f.1 f.2) xs fs ∧ (∀ f ∈ fs, 0 < f.2 ∧ f.2 ∣ D) ∧ 0 < D ∧ D.natAbs < 2 ^ A ∧ 0 < A ∧ A ≤ 8000 ∧ ∀ m : Int, 0 < m → (∀ f ∈ fs, f.2 ∣ m) → (∀ c : Int, (∀ f ∈ fs, f.2 ∣ c) → m ∣ c) → Q (.int m) H

theorem ok_p_common_denominator (T : Txt K mg a) : FnOk P w K mg base CX0 3 a.f_p_common_denominator a.fd_p_common_denominator ["row"] (sp_p_common_denominator K) := by
  have G_p_least_multiple := ok_p_least_multiple (P := P) (w := w) (base := base) T
  refine T.F_p_common_denominator.ok sc_p_common_denominator (fun vs H Q E h => ?_) (fun cdv A outer s H vs Q E hr h => ?_)
  · obtain ⟨l, xs, fs, D, A, rfl, _⟩ := h
    rfl
  · obtain ⟨l, xs, fs, D, A, rfl, hl, hA, hF, D0, DB, A0, A8, w⟩ := h
    refine ⟨_, (pss_cons (ps_set (i := 1) sc_p_common_denominator.nd rfl (by first | exact Or.inl rfl | exact Or.inr rfl) pe_int)
          (pss_cons (ps_for PassesOwn.never rfl (pi_list (pv 0)) (pg_tup rfl (pgs_cons (pg_name (i := 2) sc_p_common_denominator.nd rfl (by first | exact Or.inl rfl | exact Or.inr rfl)) (pgs_cons (pg_name (i := 3) sc_p_common_denominator.nd rfl (by first | exact Or.inl rfl | exact Or.inr rfl)) pgs_nil))) (pss_one (ps_set (i := 1) sc_p_common_denominator.nd rfl (by first | exact Or.inl rfl | exact Or.inr rfl) (pe_call G_p_least_multiple (hr.mono (by first | decide | omega)) (by rfl) T.g_p_least_multiple T.F_p_least_multiple.kp T.b_p_least_multiple .nil pass0 (pa_cons (pv 1) (pa_cons (pv 3) pa_nil))))))
          (pss_one (ps_ret (pv 1))))), ?_⟩
    have xl : xs.length = fs.length := hA.1
    have sm : ∀ {m : Int}, 0 < m → m ∣ D → m.natAbs < 2 ^ A := fun {m} m0 hm => by
      have := Int.le_of_dvd D0 hm
      omega
    refine ⟨.ref l, rfl, l, rfl, ⟨_, hl⟩, for_list (K := K) (a := l) (xs := xs) (fun i σ H' => ∃ m y2 y3, σ = [some (.ref l), some (.int m), y2, y3] ∧ H = H' ∧ 0 < m ∧ (∀ f ∈ fs.take i, f.2 ∣ m) ∧ ∀ c : Int, (∀ f ∈ fs, f.2 ∣ c) → m ∣ c) ⟨1, none, none, rfl, rfl, by decide, (fun f hf => by cases hf), fun c _ => Int.one_dvd c⟩ (fun i σ H' _ z => by obtain ⟨m, y2, y3, _, rfl, _⟩ := z; exact hl) ?_ ?_⟩
    · rintro i x σ H' hx ⟨m, y2, y3, rfl, rfl, m0, hm, hl'⟩
      obtain ⟨f, hf, p, rfl, hp⟩ := hA.at hx
      have hfm := List.mem_of_getElem? hf
      obtain ⟨d0, dB⟩ := hF f hfm
      have mD := hl' D fun g hg => (hF g hg).2
      refine ⟨p, _, rfl, hp, rfl, _, _, rfl, _, _, rfl, rfl, ?_⟩
      refine ⟨.int m, rfl, .int f.2, rfl, m, f.2, A, A, rfl, m0, d0, sm m0 mD, sm d0 dB, A0, A0, A8, A8, fun m' m0' e1 e2 le lst => ?_⟩
      refine ⟨m', _, _, rfl, rfl, m0', fun g hg => ?_, fun c hc => lst c (hl' c hc) (hc f hfm)⟩
      rw [List.take_add_one, hf] at hg
      rcases List.mem_append.mp hg with h | h
      · exact Int.dvd_trans (hm g h) e1
      · rw [List.mem_singleton.mp (show g ∈ [f] from h)]; exact e2
    rintro σ H' ⟨m, y2, y3, rfl, rfl, m0, hm, hl'⟩
    rw [xl, List.take_length] at hm
    exact ⟨.int m, rfl, w m m0 hm hl'⟩
end
section
variable {P : Program} {w : World} {K : PySem.W.Frag} {mg : Str → Option Value} {base : Heap} {a : Ad}
def sp_p_fraction (_ : PySem.W.Frag) : Sp := fun vs H Q _ => ∃ (n d : Int), vs = [.int n, .int d] ∧ d ≠ 0 ∧ d.natAbs < 2 ^ 8000 ∧ ∀ p, H p = none → Q (.ref p) (upd H p (.tup [.int (red n d).1, .int (red n d).2]))
def spx_p_fraction (K : PySem.W.Frag) (a : Ad) : Sp := fun vs H Q E => ∃ (n d : Int), vs = [.int n, .int d] ∧ d.natAbs < 2 ^ 8000 ∧ (d ≠ 0 → ∀ p, H p = none → Q (.ref p) (upd H p (.tup [.int (red n d).1, .int (red n d).2]))) ∧
  (d = 0 → ∀ dd H', Same H H' → H dd = none → H' dd = some (.xd [("tag", .str "ZeroDenominator")]) → E (.ref a.C_ZeroDenominator) (some dd) H')

theorem okx_p_fraction (T : Txt K mg a) : FnOk P w K mg base (L2N.CX P w) 3 a.f_p_fraction a.fd_p_fraction ["num", "den"] (spx_p_fraction K a) := by
  have G_p_greatest_divisor := ok_p_greatest_divisor (P := P) (w := w) (base := base) T
  have G_i_ZeroDenominator := ok_i_ZeroDenominator (P := P) (w := w) (base := base) T
  refine FunD.ok (CX := L2N.CX P w) T.F_p_fraction sc_p_fraction (fun vs H Q E h => ?_) (fun cdv A outer s H vs Q E hr h => ?_)
  · obtain ⟨n, d, rfl, _⟩ := h
    rfl
  · obtain ⟨n, d, rfl, dB, w, wx⟩ := h
    refine ⟨_, (pss_cons (ps_if (pt_cmpR op_eq (pv 1) pe_int (nomark _)) (pss_one (L2N.ps_raise rfl (L2N.takes_of rfl rfl rfl rfl) (ExB.pmk0 ⟨_, _, _, _, T.oC_ZeroDenominator⟩ T.iC_ZeroDenominator T.tI_ZeroDenominator G_i_ZeroDenominator (hr.mono (by first | decide | omega)) T.b_i_ZeroDenominator .nil pass0 (by rfl) T.gC_ZeroDenominator))) pss_nil)
          (pss_cons (ps_set (i := 2) sc_p_fraction.nd rfl (by first | exact Or.inl rfl | exact Or.inr rfl) (pe_call G_p_greatest_divisor (hr.mono (by first | decide | omega)) (by rfl) T.g_p_greatest_divisor T.F_p_greatest_divisor.kp T.b_p_greatest_divisor .nil pass0 (pa_cons (pv 0) (pa_cons (pv 1) pa_nil))))
          (C8.pss_cut (ps_if (pt_cmpR op_lt (pv 1) pe_int (nomark _)) (pss_one (ps_set (i := 2) sc_p_fraction.nd rfl (by first | exact Or.inl rfl | exact Or.inr rfl) (pe_un un_neg (pv 2)))) pss_nil)
          (pss_one (ps_ret (pe_tup (pa_cons (pe_op op_fdivA (pv 0) (pv 2)) (pa_cons (pe_op op_fdivA (pv 1) (pv 2)) pa_nil)))))))), ?_⟩
    by_cases hd : d = 0
    · refine ⟨.int d, rfl, rfl, _, rfl, ifT (decide_eq_true (by rw [hd])) ?_⟩
      refine ⟨by show 0 ≤ 1000; decide, fun x nx => ?_⟩
      refine ⟨x, a.C_ZeroDenominator, _, _, rfl, T.oC_ZeroDenominator, taker_of T.no_ZeroDenominator_tag, upd_same, fun d2 nd ne => ⟨rfl, d2, [("tag", .str "ZeroDenominator")], upd_same, ?_, ?_, ?_⟩⟩
      · rw [upd_ne ne, upd_same]
      · rw [upd_ne ne] at nd; exact nd
      · rw [upd_ne ne] at nd
        exact wx hd d2 _ (Same.made (C := a.C_ZeroDenominator) nx nd) nd upd_same
    replace w := w hd
    have g0 := gcd_posI (n := n) hd
    have gB : (Int.gcd n d : Int).natAbs < 2 ^ 8000 := by
      refine Nat.lt_of_le_of_lt ?_ dB
      have h1 : Int.gcd n d ∣ d.natAbs := Nat.gcd_dvd_right _ _
      have h2 := Nat.le_of_dvd (by omega) h1
      omega
    have fr := frac_red (n := n) hd
    refine ⟨.int d, rfl, rfl, _, rfl, ifF (decide_eq_false fun z => hd (V.int.inj z)) ?_⟩
    refine ⟨.int n, rfl, .int d, rfl, n, d, rfl, ?_⟩
    refine ⟨fun σ H' => σ = [some (.int n), some (.int d), some (.int (if d < 0 then -(Int.gcd n d : Int) else (Int.gcd n d : Int)))] ∧ H' = H, ?_, ?_⟩
    · refine ⟨.int d, rfl, d, 0, rfl, rfl, _, rfl, ite2 (fun e => ?_) (fun e => ?_)⟩
      · refine ⟨.int (Int.gcd n d : Int), rfl, _, rfl, ?_, rfl⟩
        rw [if_pos (of_decide_eq_true e)]
        rfl
      · refine ⟨?_, rfl⟩
        rw [if_neg (fun z => e (decide_eq_true z))]
        rfl
    · rintro σ H' ⟨rfl, rfl⟩
      generalize hG : (if d < 0 then -(Int.gcd n d : Int) else (Int.gcd n d : Int)) = g at *
      have g1 : g ≠ 0 := by rw [← hG]; split <;> omega
      have g2 : g.natAbs < 2 ^ 8000 := by rw [← hG]; split <;> omega
      have cd : ∀ i, CDivA i g := fun _ => ⟨g1, log2_lt g2 (by decide) (by decide)⟩
      refine ⟨.int n, rfl, .int g, rfl, n, g, rfl, rfl, cd n, .int d, rfl, .int g, rfl, d, g, rfl, rfl, cd d, sz (by show 2 ≤ 100000; decide), fun p np => ?_⟩
      have z := w p np
      rw [← fr] at z
      exact z
theorem ok_p_fraction (T : Txt K mg a) : FnOk P w K mg base CX0 3 a.f_p_fraction a.fd_p_fraction ["num", "den"] (sp_p_fraction K) := LmN.fn0_of (okx_p_fraction T) (fun vs H Q E h => by
  obtain ⟨n, d, rfl, hd, dB, w⟩ := h
  exact ⟨n, d, rfl, dB, fun _ => w, fun z => absurd z hd⟩)
end
section
variable {P : Program} {w : World} {K : PySem.W.Frag} {mg : Str → Option Value} {base : Heap} {a : Ad}
def sp_p_add (K : PySem.W.Frag) : Sp := spAdd K

theorem ok_p_add (T : Txt K mg a) : FnOk P w K mg base CX0 4 a.f_p_add a.fd_p_add ["one", "other"] (sp_p_add K) := by
  have G_p_fraction := ok_p_fraction (P := P) (w := w) (base := base) T
  have Gx_p_fraction := okx_p_fraction (P := P) (w := w) (base := base) T
  obtain ⟨_, v_p_fraction_2, b_p_fraction_2⟩ := T.b_p_fraction_2
  refine T.F_p_add.ok sc_p_add (fun vs H Q E h => ?_) (fun cdv A outer s H vs Q E hr h => ?_)
  · obtain ⟨v1, v2, x, y, rfl, _⟩ := h
    rfl
  · obtain ⟨v1, v2, x, y, rfl, f1, f2, w⟩ := h
    refine ⟨_, (pss_one (ps_ret (pe_call G_p_fraction (hr.mono (by first | decide | omega)) (by rfl) T.g_p_fraction T.F_p_fraction.kp b_p_fraction_2 v_p_fraction_2 pass0 (pa_cons (pe_op op_add (pe_op op_mulW (pe_ix ix_tup (pv 0) pe_int (fun _ _ => rfl)) (pe_ix ix_tup (pv 1) pe_int (fun _ _ => rfl))) (pe_op op_mulW (pe_ix ix_tup (pv 1) pe_int (fun _ _ => rfl)) (pe_ix ix_tup (pv 0) pe_int (fun _ _ => rfl)))) (pa_cons (pe_op op_mulW (pe_ix ix_tup (pv 0) pe_int (fun _ _ => rfl)) (pe_ix ix_tup (pv 1) pe_int (fun _ _ => rfl))) pa_nil))))), ?_⟩
    obtain ⟨p, rfl, hp⟩ := f1.fr
    obtain ⟨q, rfl, hq⟩ := f2.fr
    have cm : ∀ {i j : Int}, i.natAbs < 2 ^ 3000 → j.natAbs < 2 ^ 3000 → CMulW i j := fun a b => mulW a b (by decide) (by decide)
    refine ⟨.ref p, rfl, p, _, 0, _, rfl, rfl, hp, rfl, .ref q, rfl, q, _, 1, _, rfl, rfl, hq, rfl, x.1, y.2, rfl, rfl, cm f1.nB f2.dB, .ref q, rfl, q, _, 0, _, rfl, rfl, hq, rfl, .ref p, rfl, p, _, 1, _, rfl, rfl, hp, rfl, y.1, x.2, rfl, rfl, cm f2.nB f1.dB, _, _, rfl, rfl, ?_⟩
    refine ⟨.ref p, rfl, p, _, 1, _, rfl, rfl, hp, rfl, .ref q, rfl, q, _, 1, _, rfl, rfl, hq, rfl, x.2, y.2, rfl, rfl, cm f1.dB f2.dB, _, _, rfl, pos_ne f1.d0 f2.d0, ?_, fun r nr => w r nr⟩
    rw [Int.natAbs_mul]
    exact Nat.lt_of_lt_of_le (Nat.mul_lt_mul'' f1.dB f2.dB) (by rw [← Nat.pow_add]; exact Nat.pow_le_pow_right (by decide) (by decide))
end
section
variable {P : Program} {w : World} {K : PySem.W.Frag} {mg : Str → Option Value} {base : Heap} {a : Ad}
def sp_p_subtract (K : PySem.W.Frag) : Sp := spSub K

theorem ok_p_subtract (T : Txt K mg a) : FnOk P w K mg base CX0 4 a.f_p_subtract a.fd_p_subtract ["one", "other"] (sp_p_subtract K) := by
  have G_p_fraction := ok_p_fraction (P := P) (w := w) (base := base) T
  have Gx_p_fraction := okx_p_fraction (P := P) (w := w) (base := base) T
  obtain ⟨_, v_p_fraction_2, b_p_fraction_2⟩ := T.b_p_fraction_2
  refine T.F_p_subtract.ok sc_p_subtract (fun vs H Q E h => ?_) (fun cdv A outer s H vs Q E hr h => ?_)
  · obtain ⟨v1, v2, x, y, rfl, _⟩ := h
    rfl
  · obtain ⟨v1, v2, x, y, rfl, f1, f2, w⟩ := h
    refine ⟨_, (pss_one (ps_ret (pe_call G_p_fraction (hr.mono (by first | decide | omega)) (by rfl) T.g_p_fraction T.F_p_fraction.kp b_p_fraction_2 v_p_fraction_2 pass0 (pa_cons (pe_op op_sub (pe_op op_mulW (pe_ix ix_tup (pv 0) pe_int (fun _ _ => rfl)) (pe_ix ix_tup (pv 1) pe_int (fun _ _ => rfl))) (pe_op op_mulW (pe_ix ix_tup (pv 1) pe_int (fun _ _ => rfl)) (pe_ix ix_tup (pv 0) pe_int (fun _ _ => rfl)))) (pa_cons (pe_op op_mulW (pe_ix ix_tup (pv 0) pe_int (fun _ _ => rfl)) (pe_ix ix_tup (pv 1) pe_int (fun _ _ => rfl))) pa_nil))))), ?_⟩
    obtain ⟨p, rfl, hp⟩ := f1.fr
    obtain ⟨q, rfl, hq⟩ := f2.fr
    have cm : ∀ {i j : Int}, i.natAbs < 2 ^ 3000 → j.natAbs < 2 ^ 3000 → CMulW i j := fun a b => mulW a b (by decide) (by decide)
    refine ⟨.ref p, rfl, p, _, 0, _, rfl, rfl, hp, rfl, .ref q, rfl, q, _, 1, _, rfl, rfl, hq, rfl, x.1, y.2, rfl, rfl, cm f1.nB f2.dB, .ref q, rfl, q, _, 0, _, rfl, rfl, hq, rfl, .ref p, rfl, p, _, 1, _, rfl, rfl, hp, rfl, y.1, x.2, rfl, rfl, cm f2.nB f1.dB, _, _, rfl, rfl, ?_⟩
    refine ⟨.ref p, rfl, p, _, 1, _, rfl, rfl, hp, rfl, .ref q, rfl, q, _, 1, _, rfl, rfl, hq, rfl, x.2, y.2, rfl, rfl, cm f1.dB f2.dB, _, _, rfl, pos_ne f1.d0 f2.d0, ?_, fun r nr => w r nr⟩
    rw [Int.natAbs_mul]
    exact Nat.lt_of_lt_of_le (Nat.mul_lt_mul'' f1.dB f2.dB) (by rw [← Nat.pow_add]; exact Nat.pow_le_pow_right (by decide) (by decide))
end
section
variable {P : Program} {w : World} {K : PySem.W.Frag} {mg : Str → Option Value} {base : Heap} {a : Ad}
def sp_p_multiply (K : PySem.W.Frag) : Sp := spMul K

theorem ok_p_multiply (T : Txt K mg a) : FnOk P w K mg base CX0 4 a.f_p_multiply a.fd_p_multiply ["one", "other"] (sp_p_multiply K) := by
  have G_p_fraction := ok_p_fraction (P := P) (w := w) (base := base) T
  have Gx_p_fraction := okx_p_fraction (P := P) (w := w) (base := base) T
  obtain ⟨_, v_p_fraction_2, b_p_fraction_2⟩ := T.b_p_fraction_2
  refine T.F_p_multiply.ok sc_p_multiply (fun vs H Q E h => ?_) (fun cdv A outer s H vs Q E hr h => ?_)
  · obtain ⟨v1, v2, x, y, rfl, _⟩ := h
    rfl
  · obtain ⟨v1, v2, x, y, rfl, f1, f2, w⟩ := h
    refine ⟨_, (pss_one (ps_ret (pe_call G_p_fraction (hr.mono (by first | decide | omega)) (by rfl) T.g_p_fraction T.F_p_fraction.kp b_p_fraction_2 v_p_fraction_2 pass0 (pa_cons (pe_op op_mulW (pe_ix ix_tup (pv 0) pe_int (fun _ _ => rfl)) (pe_ix ix_tup (pv 1) pe_int (fun _ _ => rfl))) (pa_cons (pe_op op_mulW (pe_ix ix_tup (pv 0) pe_int (fun _ _ => rfl)) (pe_ix ix_tup (pv 1) pe_int (fun _ _ => rfl))) pa_nil))))), ?_⟩
    obtain ⟨p, rfl, hp⟩ := f1.fr
    obtain ⟨q, rfl, hq⟩ := f2.fr
    have cm : ∀ {i j : Int}, i.natAbs < 2 ^ 3000 → j.natAbs < 2 ^ 3000 → CMulW i j := fun a b => mulW a b (by decide) (by decide)
    refine ⟨.ref p, rfl, p, _, 0, _, rfl, rfl, hp, rfl, .ref q, rfl, q, _, 0, _, rfl, rfl, hq, rfl, x.1, y.1, rfl, rfl, cm f1.nB f2.nB, ?_⟩
    refine ⟨.ref p, rfl, p, _, 1, _, rfl, rfl, hp, rfl, .ref q, rfl, q, _, 1, _, rfl, rfl, hq, rfl, x.2, y.2, rfl, rfl, cm f1.dB f2.dB, _, _, rfl, pos_ne f1.d0 f2.d0, ?_, fun r nr => w r nr⟩
    rw [Int.natAbs_mul]
    exact Nat.lt_of_lt_of_le (Nat.mul_lt_mul'' f1.dB f2.dB) (by rw [← Nat.pow_add]; exact Nat.pow_le_pow_right (by decide) (by decide))
end
section
variable {P : Program} {w : World} {K : PySem.W.Frag} {mg : Str → Option Value} {base : Heap} {a : Ad}
def sp_p_divide (K : PySem.W.Frag) : Sp := spDiv K
def spx_p_divide (K : PySem.W.Frag) (a : Ad) : Sp := fun vs H Q E => ∃ (v1 v2 : V) (x y : QQ), vs = [v1, v2] ∧ FrB K H v1 x.1 x.2 3000 ∧ FrB K H v2 y.1 y.2 3000 ∧ (y.1 ≠ 0 → ∀ r, H r = none → Q (.ref r) (upd H r (.tup [.int (red (x.1 * y.2) (x.2 * y.1)).1, .int (red (x.1 * y.2) (x.2 * y.1)).2]))) ∧
  (y.1 = 0 → ∀ dd H', Same H H' → H dd = none → H' dd = some (.xd [("tag", .str "ZeroDenominator")]) → E (.ref a.C_ZeroDenominator) (some dd) H')

theorem okx_p_divide (T : Txt K mg a) : FnOk P w K mg base (L2N.CX P w) 4 a.f_p_divide a.fd_p_divide ["one", "other"] (spx_p_divide K a) := by
  have G_p_fraction := ok_p_fraction (P := P) (w := w) (base := base) T
  have Gx_p_fraction := okx_p_fraction (P := P) (w := w) (base := base) T
  obtain ⟨_, v_p_fraction_2, b_p_fraction_2⟩ := T.b_p_fraction_2
  refine LmN.okN T.F_p_divide sc_p_divide (fun vs H Q E h => ?_) (fun cdv A outer s H vs Q E hr h => ?_)
  · obtain ⟨v1, v2, x, y, rfl, _⟩ := h
    rfl
  · obtain ⟨v1, v2, x, y, rfl, f1, f2, w, wx⟩ := h
    refine ⟨_, (pss_one (ps_ret (pe_call Gx_p_fraction (hr.mono (by first | decide | omega)) (by rfl) T.g_p_fraction T.F_p_fraction.kp b_p_fraction_2 v_p_fraction_2 (L2N.passes_call (L2N.takes_of rfl rfl rfl rfl) (fun _ _ _ _ h => h)) (pa_cons (pe_op op_mulW (pe_ix ix_tup (pv 0) pe_int (fun _ _ => rfl)) (pe_ix ix_tup (pv 1) pe_int (fun _ _ => rfl))) (pa_cons (pe_op op_mulW (pe_ix ix_tup (pv 0) pe_int (fun _ _ => rfl)) (pe_ix ix_tup (pv 1) pe_int (fun _ _ => rfl))) pa_nil))))), ?_⟩
    obtain ⟨p, rfl, hp⟩ := f1.fr
    obtain ⟨q, rfl, hq⟩ := f2.fr
    have cm : ∀ {i j : Int}, i.natAbs < 2 ^ 3000 → j.natAbs < 2 ^ 3000 → CMulW i j := fun a b => mulW a b (by decide) (by decide)
    refine ⟨.ref p, rfl, p, _, 0, _, rfl, rfl, hp, rfl, .ref q, rfl, q, _, 1, _, rfl, rfl, hq, rfl, x.1, y.2, rfl, rfl, cm f1.nB f2.dB, ?_⟩
    refine ⟨.ref p, rfl, p, _, 1, _, rfl, rfl, hp, rfl, .ref q, rfl, q, _, 0, _, rfl, rfl, hq, rfl, x.2, y.1, rfl, rfl, cm f1.dB f2.nB, _, _, rfl, ?_, fun hd => w (fun z => hd (by rw [z, Int.mul_zero])), fun hd => wx ?_⟩
    · rw [Int.natAbs_mul]
      exact Nat.lt_of_lt_of_le (Nat.mul_lt_mul'' f1.dB f2.nB) (by rw [← Nat.pow_add]; exact Nat.pow_le_pow_right (by decide) (by decide))
    · rcases Int.mul_eq_zero.mp hd with z | z
      · exact absurd z (by have := f1.d0; omega)
      · exact z
theorem ok_p_divide (T : Txt K mg a) : FnOk P w K mg base CX0 4 a.f_p_divide a.fd_p_divide ["one", "other"] (sp_p_divide K) := LmN.fn0_of (okx_p_divide T) (fun vs H Q E h => by
  obtain ⟨v1, v2, x, y, rfl, f1, f2, y0, w⟩ := h
  exact ⟨v1, v2, x, y, rfl, f1, f2, fun _ => w, fun z => absurd z y0⟩)
end
section
variable {P : Program} {w : World} {K : PySem.W.Frag} {mg : Str → Option Value} {base : Heap} {a : Ad}
def sp_p_is_less (K : PySem.W.Frag) : Sp := spLess K

theorem ok_p_is_less (T : Txt K mg a) : FnOk P w K mg base CX0 1 a.f_p_is_less a.fd_p_is_less ["one", "other"] (sp_p_is_less K) := by
  refine T.F_p_is_less.ok sc_p_is_less (fun vs H Q E h => ?_) (fun cdv A outer s H vs Q E hr h => ?_)
  · obtain ⟨v1, v2, x, y, rfl, _⟩ := h
    rfl
  · obtain ⟨v1, v2, x, y, rfl, f1, f2, w⟩ := h
    refine ⟨_, (pss_one (ps_ret (pe_cmpR op_lt (pe_op op_mulW (pe_ix ix_tup (pv 0) pe_int (fun _ _ => rfl)) (pe_ix ix_tup (pv 1) pe_int (fun _ _ => rfl))) (pe_op op_mulW (pe_ix ix_tup (pv 1) pe_int (fun _ _ => rfl)) (pe_ix ix_tup (pv 0) pe_int (fun _ _ => rfl))) (nomark _)))), ?_⟩
    obtain ⟨p, rfl, hp⟩ := f1.fr
    obtain ⟨q, rfl, hq⟩ := f2.fr
    have cm : ∀ {i j : Int}, i.natAbs < 2 ^ 20000 → j.natAbs < 2 ^ 20000 → CMulW i j := fun a b => mulW a b (by decide) (by decide)
    exact ⟨.ref p, rfl, p, _, 0, _, rfl, rfl, hp, rfl, .ref q, rfl, q, _, 1, _, rfl, rfl, hq, rfl, x.1, y.2, rfl, rfl, cm f1.nB f2.dB, .ref q, rfl, q, _, 0, _, rfl, rfl, hq, rfl, .ref p, rfl, p, _, 1, _, rfl, rfl, hp, rfl, y.1, x.2, rfl, rfl, cm f2.nB f1.dB, _, _, rfl, rfl, w⟩
end
section
variable {P : Program} {w : World} {K : PySem.W.Frag} {mg : Str → Option Value} {base : Heap} {a : Ad}
theorem fold_more {fs : List QQ} {s : QQ} {i : Nat} {f : QQ} (h : fs[i]? = some f) : (fs.take (i + 1)).foldl radd s = radd ((fs.take i).foldl radd s) f := by
  rw [List.take_add_one, h, List.foldl_append]
  rfl

def sp_p_total (K : PySem.W.Frag) : Sp := fun vs H Q _ => ∃ (p : Addr) (xs : List V) (fs : List QQ) (v0 : V) (s0 : QQ), vs = [.ref p, v0] ∧ Sq K H p xs ∧ Frs K H xs fs 40 ∧ xs.length ≤ 60 ∧ FrB K H v0 s0.1 s0.2 40 ∧ ∀ v H', Same H H' → FrB K H' v (fs.foldl radd s0).1 (fs.foldl radd s0).2 2600 → Q v H'

theorem ok_p_total (T : Txt K mg a) : FnOk P w K mg base CX0 5 a.f_p_total a.fd_p_total ["row", "start"] (sp_p_total K) := by
  have G_p_add := ok_p_add (P := P) (w := w) (base := base) T
  refine FunD.ok0 T.F_p_total sc_p_total (fun vs H Q E h => ?_) (fun cdv A outer s H vs Q E hr h => ?_)
  · obtain ⟨p, xs, fs, v0, s0, rfl, _⟩ := h
    rfl
  · obtain ⟨p, xs, fs, v0, s0, rfl, hS, hF, hl, f0, w⟩ := h
    refine ⟨_, (pss_cons (ps_set (i := 2) sc_p_total.nd rfl (by first | exact Or.inl rfl | exact Or.inr rfl) (pv 1))
          (pss_cons (ps_for PassesOwn.never rfl (EnT.pi_or (pi_list (pv 0)) (pi_tup (pv 0))) (pg_name (i := 3) sc_p_total.nd rfl (by first | exact Or.inl rfl | exact Or.inr rfl)) (pss_one (ps_set (i := 2) sc_p_total.nd rfl (by first | exact Or.inl rfl | exact Or.inr rfl) (pe_call G_p_add (hr.mono (by first | decide | omega)) (by rfl) T.g_p_add T.F_p_add.kp T.b_p_add .nil pass0 (pa_cons (pv 2) (pa_cons (pv 3) pa_nil))))))
          (pss_one (ps_ret (pv 2))))), ?_⟩
    refine ⟨v0, rfl, ?_⟩
    rcases hS with hS | hS
    · refine .inl ⟨.ref p, rfl, p, rfl, ⟨_, hS⟩, for_list (K := K) (a := p) (xs := xs) (fun i σ H' => ∃ v y, σ = [some (.ref p), some v0, some v, y] ∧ Same H H' ∧ FrB K H' v ((fs.take i).foldl radd s0).1 ((fs.take i).foldl radd s0).2 (40 + 41 * i)) ⟨v0, none, rfl, Same.refl H, f0⟩ (fun i σ H' _ ⟨_, _, _, s1, _⟩ => s1.seq hS) ?_ ?_⟩
      · rintro i x σ H1 hx ⟨v, y, rfl, s1, fv⟩
        obtain ⟨f, hf, fx⟩ := (hF.same s1).at hx
        have hl' := hF.1
        have hi : i < xs.length := (List.getElem?_eq_some_iff.mp hx).1
        refine ⟨v, rfl, x, rfl, v, x, _, f, rfl, fv.up' (by omega), fx.up' (by omega), fun q nq => ?_⟩
        refine ⟨_, _, rfl, s1.trans (Same.new nq), ?_⟩
        have z := FrB.add (p := q) fv fx
        rw [fold_more hf]
        exact z.up' (by omega)
      · rintro σ H1 ⟨v, y, rfl, s1, fv⟩
        have hl' := hF.1
        rw [hF.1, List.take_length] at fv
        exact ⟨v, rfl, w v H1 s1 (fv.up' (by omega))⟩
    · refine .inr ⟨.ref p, rfl, p, rfl, ⟨_, hS⟩, for_tup (K := K) (a := p) (xs := xs) (fun i σ H' => ∃ v y, σ = [some (.ref p), some v0, some v, y] ∧ Same H H' ∧ FrB K H' v ((fs.take i).foldl radd s0).1 ((fs.take i).foldl radd s0).2 (40 + 41 * i)) ⟨v0, none, rfl, Same.refl H, f0⟩ (fun i σ H' _ ⟨_, _, _, s1, _⟩ => Same.T s1 hS) ?_ ?_⟩
      · rintro i x σ H1 hx ⟨v, y, rfl, s1, fv⟩
        obtain ⟨f, hf, fx⟩ := (hF.same s1).at hx
        have hl' := hF.1
        have hi : i < xs.length := (List.getElem?_eq_some_iff.mp hx).1
        refine ⟨v, rfl, x, rfl, v, x, _, f, rfl, fv.up' (by omega), fx.up' (by omega), fun q nq => ?_⟩
        refine ⟨_, _, rfl, s1.trans (Same.new nq), ?_⟩
        have z := FrB.add (p := q) fv fx
        rw [fold_more hf]
        exact z.up' (by omega)
      · rintro σ H1 ⟨v, y, rfl, s1, fv⟩
        have hl' := hF.1
        rw [hF.1, List.take_length] at fv
        exact ⟨v, rfl, w v H1 s1 (fv.up' (by omega))⟩
end
section
variable {P : Program} {w : World} {K : PySem.W.Frag} {mg : Str → Option Value} {base : Heap} {a : Ad}
def sp_p_index_of_max (K : PySem.W.Frag) : Sp := fun vs H Q _ => ∃ (p : Addr) (xs : List V) (fs : List QQ), vs = [.ref p] ∧ Sq K H p xs ∧ Frs K H xs fs 40 ∧ 0 < xs.length ∧ ∀ (j : Nat) H', Same H H' → Fst rlt fs j → Q (.int (j : Nat)) H'

theorem ok_p_index_of_max (T : Txt K mg a) : FnOk P w K mg base CX0 2 a.f_p_index_of_max a.fd_p_index_of_max ["row"] (sp_p_index_of_max K) := by
  have G_p_is_less := ok_p_is_less (P := P) (w := w) (base := base) T
  refine T.F_p_index_of_max.ok sc_p_index_of_max (fun vs H Q E h => ?_) (fun cdv A outer s H vs Q E hr h => ?_)
  · obtain ⟨p, xs, fs, rfl, _⟩ := h
    rfl
  · obtain ⟨p, xs, fs, rfl, hS, hF, hl, w⟩ := h
    refine ⟨_, (pss_cons (ps_set (i := 1) sc_p_index_of_max.nd rfl (by first | exact Or.inl rfl | exact Or.inr rfl) pe_int)
          (pss_cons (ps_for PassesOwn.never rfl (EnT.pi_or (pi_enum (by rfl) T.n_enumerate (pa_cons (pv 0) pa_nil)) (EnT.pi_enumT (by rfl) T.n_enumerate (pa_cons (pv 0) pa_nil))) (pg_tup rfl (pgs_cons (pg_name (i := 2) sc_p_index_of_max.nd rfl (by first | exact Or.inl rfl | exact Or.inr rfl)) (pgs_cons (pg_name (i := 3) sc_p_index_of_max.nd rfl (by first | exact Or.inl rfl | exact Or.inr rfl)) pgs_nil))) (pss_one (ps_if (pt_val (pe_call G_p_is_less (hr.mono (by first | decide | omega)) (by rfl) T.g_p_is_less T.F_p_is_less.kp T.b_p_is_less .nil pass0 (pa_cons (pe_ix ix_seq (pv 0) (pv 1) (fun _ _ => rfl)) (pa_cons (pv 3) pa_nil)))) (pss_one (ps_set (i := 1) sc_p_index_of_max.nd rfl (by first | exact Or.inl rfl | exact Or.inr rfl) (pv 2))) pss_nil)))
          (pss_one (ps_ret (pv 1))))), ?_⟩
    have hfl := hF.1
    rcases hS with hS | hS
    · refine .inl ⟨.ref p, rfl, p, xs, rfl, hS, ?_⟩
      refine ⟨fun i m σ H1 => ∃ (j : Nat) (y2 y3 : Option V), i + m = xs.length ∧ σ = [some (.ref p), some (.int (j : Nat)), y2, y3] ∧ Same H H1 ∧ Bst rlt fs i j, ⟨xs.length, 0, none, none, by omega, rfl, Same.refl H, Bst.start (by omega)⟩, fun i m σ H1 hW => ?_⟩
      obtain ⟨j, y2, y3, em, rfl, s1, hb⟩ := hW
      by_cases hi : i < xs.length
      · refine .inr ⟨⟨xs, xs[i], s1.seq hS, List.getElem?_eq_getElem hi⟩, fun σ' H' => ∃ (j : Nat) (y2 y3 : Option V), σ' = [some (.ref p), some (.int (j : Nat)), y2, y3] ∧ Same H H' ∧ Bst rlt fs (i + 1) j, fun σ' H' hN => ?_, fun v H2 hy => ?_⟩
        · obtain ⟨j, y2, y3, e1, e2, e3⟩ := hN
          exact ⟨m - 1, by omega, j, y2, y3, by omega, e1, e2, e3⟩
        · obtain ⟨tt, u, rfl, nT, rfl, fu⟩ := hy
          have hu := fu xs (s1.seq hS)
          have s2 := s1.trans (Same.new (o := .tup [.int (i : Nat), u]) nT)
          obtain ⟨fi, hfi, bi⟩ := (hF.same s2).at hu
          have jl : j < xs.length := by rw [hF.1]; exact hb.lt
          obtain ⟨xj, hj⟩ : ∃ xj, xs[j]? = some xj := ⟨xs[j], List.getElem?_eq_getElem jl⟩
          obtain ⟨fj, hfj, bj⟩ := (hF.same s2).at hj
          refine ⟨tt, [.int (i : Nat), u], rfl, SqT.of upd_same, rfl, .int (i : Nat), [u], rfl, u, [], rfl, rfl, ?_⟩
          refine ⟨.ref p, rfl, .int (j : Nat), rfl, .inl ⟨p, xs, _, xj, rfl, rfl, s2.seq hS, atI_nat hj, u, rfl, xj, u, fj, fi, rfl, bj.up' (by decide), bi.up' (by decide), _, rfl, ite2 (fun e => ?_) (fun e => ?_)⟩⟩
          · exact ⟨.int (i : Nat), rfl, i, _, _, rfl, s2, hb.take ordMax hF.low hfj hfi e⟩
          · exact ⟨j, _, _, rfl, s2, hb.keep hfj hfi (Bool.eq_false_iff.mpr e)⟩
      · have ei : i = xs.length := by omega
        subst ei
        refine .inl ⟨⟨xs, s1.seq hS, Nat.le_refl _⟩, ?_⟩
        rw [hF.1] at hb
        exact ⟨_, rfl, w j H1 s1 hb.fst⟩
    · refine .inr ⟨.ref p, rfl, p, xs, rfl, hS, ?_⟩
      refine ⟨fun i m σ H1 => ∃ (j : Nat) (y2 y3 : Option V), i + m = xs.length ∧ σ = [some (.ref p), some (.int (j : Nat)), y2, y3] ∧ Same H H1 ∧ Bst rlt fs i j, ⟨xs.length, 0, none, none, by omega, rfl, Same.refl H, Bst.start (by omega)⟩, fun i m σ H1 hW => ?_⟩
      obtain ⟨j, y2, y3, em, rfl, s1, hb⟩ := hW
      by_cases hi : i < xs.length
      · refine .inr ⟨⟨xs, xs[i], Same.T s1 hS, List.getElem?_eq_getElem hi⟩, fun σ' H' => ∃ (j : Nat) (y2 y3 : Option V), σ' = [some (.ref p), some (.int (j : Nat)), y2, y3] ∧ Same H H' ∧ Bst rlt fs (i + 1) j, fun σ' H' hN => ?_, fun v H2 hy => ?_⟩
        · obtain ⟨j, y2, y3, e1, e2, e3⟩ := hN
          exact ⟨m - 1, by omega, j, y2, y3, by omega, e1, e2, e3⟩
        · obtain ⟨tt, u, rfl, nT, rfl, fu⟩ := hy
          have hu := fu xs (Same.T s1 hS)
          have s2 := s1.trans (Same.new (o := .tup [.int (i : Nat), u]) nT)
          obtain ⟨fi, hfi, bi⟩ := (hF.same s2).at hu
          have jl : j < xs.length := by rw [hF.1]; exact hb.lt
          obtain ⟨xj, hj⟩ : ∃ xj, xs[j]? = some xj := ⟨xs[j], List.getElem?_eq_getElem jl⟩
          obtain ⟨fj, hfj, bj⟩ := (hF.same s2).at hj
          refine ⟨tt, [.int (i : Nat), u], rfl, SqT.of upd_same, rfl, .int (i : Nat), [u], rfl, u, [], rfl, rfl, ?_⟩
          refine ⟨.ref p, rfl, .int (j : Nat), rfl, .inr (.inl ⟨p, xs, _, xj, rfl, rfl, Same.T s2 hS, atI_nat hj, u, rfl, xj, u, fj, fi, rfl, bj.up' (by decide), bi.up' (by decide), _, rfl, ite2 (fun e => ?_) (fun e => ?_)⟩)⟩
          · exact ⟨.int (i : Nat), rfl, i, _, _, rfl, s2, hb.take ordMax hF.low hfj hfi e⟩
          · exact ⟨j, _, _, rfl, s2, hb.keep hfj hfi (Bool.eq_false_iff.mpr e)⟩
      · have ei : i = xs.length := by omega
        subst ei
        refine .inl ⟨⟨xs, Same.T s1 hS, Nat.le_refl _⟩, ?_⟩
        rw [hF.1] at hb
        exact ⟨_, rfl, w j H1 s1 hb.fst⟩
end
section
variable {P : Program} {w : World} {K : PySem.W.Frag} {mg : Str → Option Value} {base : Heap} {a : Ad}
def sp_p_ceiling (K : PySem.W.Frag) : Sp := fun vs H Q _ => ∃ (v : V) (n d : Int), vs = [v] ∧ Fr K H v n d ∧ 0 < d ∧ d.natAbs < 2 ^ 8000 ∧ Q (.int (-(-n / d))) H

theorem ok_p_ceiling (T : Txt K mg a) : FnOk P w K mg base CX0 1 a.f_p_ceiling a.fd_p_ceiling ["one"] (sp_p_ceiling K) := by
  refine T.F_p_ceiling.ok sc_p_ceiling (fun vs H Q E h => ?_) (fun cdv A outer s H vs Q E hr h => ?_)
  · obtain ⟨v, n, d, rfl, _⟩ := h
    rfl
  · obtain ⟨v, n, d, rfl, ⟨p, rfl, hp⟩, d0, dB, w⟩ := h
    refine ⟨_, (pss_one (ps_ret (pe_un un_neg (pe_op op_fdivW (pe_un un_neg (pe_ix ix_tup (pv 0) pe_int (fun _ _ => rfl))) (pe_ix ix_tup (pv 0) pe_int (fun _ _ => rfl)))))), ?_⟩
    exact ⟨.ref p, rfl, p, _, 0, _, rfl, rfl, hp, rfl, n, rfl, .ref p, rfl, p, _, 1, _, rfl, rfl, hp, rfl, -n, d, rfl, rfl, wide_div (b := 8000) d0 dB (by decide) (by decide), _, rfl, w⟩
end
section
variable {P : Program} {w : World} {K : PySem.W.Frag} {mg : Str → Option Value} {base : Heap} {a : Ad}
def sp_p_is_valid_name (K : PySem.W.Frag) : Sp := fun vs H Q _ => ∃ v, vs = [v] ∧ ((∃ z : Str, v = .str z ∧ z.length ≤ 100000 ∧ ∀ H', Same H H' → Q (.bl (nameB z)) H') ∨ ∃ t, TyX K H v (.type t) ∧ kitB t "str" = some false ∧ Q (.bl false) H)

theorem ok_p_is_valid_name (T : Txt K mg a) : FnOk P w K mg base CX0 1 a.f_p_is_valid_name a.fd_p_is_valid_name ["thing"] (sp_p_is_valid_name K) := by
  refine T.F_p_is_valid_name.ok sc_p_is_valid_name (fun vs H Q E h => ?_) (fun cdv A outer s H vs Q E hr h => ?_)
  · obtain ⟨v, rfl, _⟩ := h
    rfl
  · obtain ⟨v, rfl, h⟩ := h
    refine ⟨_, (pss_cons (ps_if (PW.pt (pw_or (pt_not (pt_val (pe_callB call_isi (by rfl) T.n_isinstance (by decide +kernel) (pa_cons (pv 0) (pa_cons (pe_bltn (v := .ty "str") (by rfl) T.n_str (by decide +kernel) rfl) pa_nil))))) (pw_or1 (pt_not (pt_chain op_le op_le pe_int (pe_callB call_len (by rfl) T.n_len (by decide +kernel) (pa_cons (pv 0) pa_nil)) (pe_glob (v := .int 6) (by rfl) T.c_MAX_NAME ⟨_, rfl⟩)))))) (pss_one (ps_ret pe_bl)) pss_nil)
          (pss_one (ps_ret (pe_and (pe_callB (cr_all rfl) (by rfl) T.n_all (by decide +kernel) (pa_cons (pe_lc (own := [("letter", 1)]) (g := gName 1) rfl sc_p_is_valid_name.nd (pi_str (pv 0)) (blkOk_by (own := [("letter", 1)]) (N := ["thing", "letter"]) (sc := defScope s_p_is_valid_name) (by decide +kernel)) (fun _ _ _ _ _ => (pg_name (i := 1) sc_p_is_valid_name.nd rfl (Or.inl rfl))) (fun _ _ _ _ _ => pts_nil) (fun _ _ _ _ _ => (pe_chain op_le_str op_le_str pe_str (pv 1) pe_str))) pa_nil)) (pe_one (pe_cmpR op_notIn_seq (pv 0) (pe_glob (v := .ref a.o_KEYWORDS) (by rfl) T.c_KEYWORDS rfl) (by rfl))))))), ?_⟩
    rcases h with ⟨z, rfl, hz, w⟩ | ⟨t, ty, hk, w⟩
    rotate_left
    · exact ⟨v, rfl, _, _, _, _, _, rfl, .ty _, ty, kit_ty hk, false, rfl, iteT (iteT w)⟩
    refine ⟨.str z, rfl, _, _, _, _, true, rfl, .ty _, .base (.str z), kit_ty (by decide +kernel), true, rfl, iteF ?_⟩
    have no : nameB z = false → Q (.bl false) H := fun e => by
      have := w H (Same.refl H)
      rw [e] at this
      exact this
    refine ⟨.str z, rfl, .str z, z.length, rfl, ⟨sz hz, rfl⟩, 1, (z.length : Int), rfl, rfl, _, rfl, ite2 (fun e1 => ?_) (fun e1 => ?_)⟩
    rotate_left
    · refine ⟨false, rfl, iteT (no ?_)⟩
      have : ¬ 1 ≤ z.length := fun y => e1 (decide_eq_true (by omega))
      unfold nameB
      rw [decide_eq_false this]
      rfl
    have l1 : 1 ≤ z.length := by have := of_decide_eq_true e1; omega
    by_cases l2 : z.length ≤ 6
    rotate_left
    · refine ⟨(z.length : Int), 6, rfl, rfl, false, congrArg V.bl (decide_eq_false (by omega)), iteT (no ?_)⟩
      unfold nameB
      rw [decide_eq_true l1, decide_eq_false l2]
      rfl
    refine ⟨(z.length : Int), 6, rfl, rfl, true, congrArg V.bl (decide_eq_true (by omega)), iteF ?_⟩
    refine ⟨.str z, rfl, z, rfl, fun D nD => ?_⟩
    refine ⟨fun i m H1 => i + m = z.length ∧ Same H H1 ∧ H1 D = some (.lst (((z.cps.toList.take i).map lowB).map V.bl)), ⟨z.length, by omega, Same.new nD, by rw [upd_same]; rfl⟩, fun i m H1 hW => ?_⟩
    obtain ⟨em, s1, hD⟩ := hW
    by_cases hi : i < z.length
    · refine .inr ⟨(show i < z.cps.size from hi), fun H2 => Same H H2 ∧ H2 D = some (.lst (((z.cps.toList.take (i + 1)).map lowB).map V.bl)), fun H2 hN => ⟨m - 1, by omega, by omega, hN.1, hN.2⟩, fun v H2 hy => ?_⟩
      obtain ⟨rfl, c, hc, rfl⟩ := hy
      have hc2 : z.cps.toList[i]? = some c := by rw [Array.getElem?_toList]; exact hc
      have fin : ∀ b : Bool, b = lowB c → ∃ acc, H2 D = some (.lst acc) ∧ acc.length < sizeLine ∧ Same H (upd H2 D (.lst (acc ++ [V.bl b]))) ∧ (upd H2 D (.lst (acc ++ [V.bl b]))) D = some (.lst (((z.cps.toList.take (i + 1)).map lowB).map V.bl)) := by
        intro b hb
        refine ⟨_, hD, ?_, fun x o e => ?_, ?_⟩
        · rw [List.length_map, List.length_map, List.length_take]
          exact szl (by omega)
        · rw [upd_ne (ne_of_none e nD)]
          exact s1 _ _ e
        · rw [upd_same, hb, tk_more hc2, List.map_append]
          rfl
      refine ⟨rfl, tYes_if ?_⟩
      refine ⟨.str ⟨#[c]⟩, rfl, "a", ⟨#[c]⟩, rfl, rfl, _, rfl, ?_⟩
      rw [le_a]
      refine ite2 (fun e => ?_) (fun e => ?_)
      · refine ⟨⟨#[c]⟩, "z", rfl, rfl, ?_⟩
        refine fin _ ?_
        rw [le_z]
        unfold lowB
        rw [e, Bool.true_and]
      · refine fin _ ?_
        unfold lowB
        rw [Bool.eq_false_iff.mpr e]
        rfl
    · have ei : i = z.length := by omega
      subst ei
      refine .inl ⟨(show z.cps.size ≤ z.length from Nat.le_refl _), ?_⟩
      rw [show z.cps.toList.take z.length = z.cps.toList by rw [← cps_len, List.take_length]] at hD
      refine ⟨D, z.cps.toList.map lowB, rfl, SqL.of hD, _, rfl, ?_⟩
      have ea : (z.cps.toList.map lowB).all id = z.cps.toList.all lowB := by rw [List.all_map]; rfl
      rw [ea]
      refine ite2 (fun e => ?_) (fun e => ?_)
      · refine ⟨.str z, rfl, a.o_KEYWORDS, kws4, rfl, .inr (T.t_KEYWORDS H1), rfl, rfl, ?_⟩
        have := w H1 s1
        unfold nameB at this
        rw [decide_eq_true l1, decide_eq_true l2, e] at this
        exact this
      · have := w H1 s1
        unfold nameB at this
        rw [decide_eq_true l1, decide_eq_true l2, Bool.eq_false_iff.mpr e] at this
        exact this
end
section
variable {P : Program} {w : World} {K : PySem.W.Frag} {mg : Str → Option Value} {base : Heap} {a : Ad}
def sp_p_is_number (K : PySem.W.Frag) : Sp := fun vs H Q _ => ∃ i : Int, vs = [.int i] ∧ Q (.bl true) H

theorem ok_p_is_number (T : Txt K mg a) : FnOk P w K mg base CX0 1 a.f_p_is_number a.fd_p_is_number ["thing"] (sp_p_is_number K) := by
  refine T.F_p_is_number.ok sc_p_is_number (fun vs H Q E h => ?_) (fun cdv A outer s H vs Q E hr h => ?_)
  · obtain ⟨i, rfl, _⟩ := h
    rfl
  · obtain ⟨i, rfl, w⟩ := h
    refine ⟨_, (pss_one (ps_ret (pe_and (pe_callB call_isi (by rfl) T.n_isinstance (by decide +kernel) (pa_cons (pv 0) (pa_cons (pe_bltn (v := .ty "int") (by rfl) T.n_int (by decide +kernel) rfl) pa_nil))) (pe_one (pe_not (pe_callB call_isi (by rfl) T.n_isinstance (by decide +kernel) (pa_cons (pv 0) (pa_cons (pe_bltn (v := .ty "bool") (by rfl) T.n_bool (by decide +kernel) rfl) pa_nil)))))))), ?_⟩
    exact ⟨.int i, rfl, _, _, _, _, true, rfl, .ty _, .base (.int i), kit_ty (by decide +kernel), true, rfl, ifT rfl ⟨.int i, rfl, _, _, _, _, false, rfl, .ty _, .base (.int i), kit_ty (by decide +kernel), false, rfl, w⟩⟩
end
section
variable {P : Program} {w : World} {K : PySem.W.Frag} {mg : Str → Option Value} {base : Heap} {a : Ad}
def sp_p_is_term_fraction (K : PySem.W.Frag) : Sp := fun vs H Q _ => ∃ (v : V) (f : QQ), vs = [v] ∧ FrW K H v f ∧ ∀ H', Same H H' → Q (.bl (fracB f)) H'

theorem ok_p_is_term_fraction (T : Txt K mg a) : FnOk P w K mg base CX0 4 a.f_p_is_term_fraction a.fd_p_is_term_fraction ["thing"] (sp_p_is_term_fraction K) := by
  have G_p_is_number := ok_p_is_number (P := P) (w := w) (base := base) T
  have G_p_fraction := ok_p_fraction (P := P) (w := w) (base := base) T
  have Gx_p_fraction := okx_p_fraction (P := P) (w := w) (base := base) T
  obtain ⟨_, v_p_fraction_2, b_p_fraction_2⟩ := T.b_p_fraction_2
  refine T.F_p_is_term_fraction.ok sc_p_is_term_fraction (fun vs H Q E h => ?_) (fun cdv A outer s H vs Q E hr h => ?_)
  · obtain ⟨v, f, rfl, _⟩ := h
    rfl
  · obtain ⟨v, f, rfl, ⟨⟨p, rfl, hp⟩, nB, dB⟩, w⟩ := h
    refine ⟨_, (pss_cons (ps_if (PW.pt (pw_or (pt_not (pt_val (pe_callB call_isi (by rfl) T.n_isinstance (by decide +kernel) (pa_cons (pv 0) (pa_cons (pe_bltn (v := .ty "tuple") (by rfl) T.n_tuple (by decide +kernel) rfl) pa_nil))))) (pw_or1 (pt_cmpR op_ne (pe_callB call_len (by rfl) T.n_len (by decide +kernel) (pa_cons (pv 0) pa_nil)) pe_int (nomark _))))) (pss_one (ps_ret pe_bl)) pss_nil)
          (pss_cons (ps_asg (pv 0) (pg_tup rfl (pgs_cons (pg_name (i := 1) sc_p_is_term_fraction.nd rfl (by first | exact Or.inl rfl | exact Or.inr rfl)) (pgs_cons (pg_name (i := 2) sc_p_is_term_fraction.nd rfl (by first | exact Or.inl rfl | exact Or.inr rfl)) pgs_nil))))
          (pss_cons (ps_if (PW.pt (pw_or (pt_not (pt_val (pe_call G_p_is_number (hr.mono (by first | decide | omega)) (by rfl) T.g_p_is_number T.F_p_is_number.kp T.b_p_is_number .nil pass0 (pa_cons (pv 1) pa_nil)))) (pw_or1 (pt_not (pt_val (pe_call G_p_is_number (hr.mono (by first | decide | omega)) (by rfl) T.g_p_is_number T.F_p_is_number.kp T.b_p_is_number .nil pass0 (pa_cons (pv 2) pa_nil))))))) (pss_one (ps_ret pe_bl)) pss_nil)
          (pss_one (ps_ret (pe_and (pe_cmpR op_le (pe_callB call_abs (by rfl) T.n_abs (by decide +kernel) (pa_cons (pv 1) pa_nil)) (pe_glob (v := .int 999999999999) (by rfl) T.c_MAX_SIDE ⟨_, rfl⟩) (nomark _)) (pe_and (pe_chain op_le op_le pe_int (pv 2) (pe_glob (v := .int 999999999999) (by rfl) T.c_MAX_SIDE ⟨_, rfl⟩)) (pe_one (pe_cmpR (op_eqD hr.units) (pe_call G_p_fraction (hr.mono (by first | decide | omega)) (by rfl) T.g_p_fraction T.F_p_fraction.kp b_p_fraction_2 v_p_fraction_2 pass0 (pa_cons (pv 1) (pa_cons (pv 2) pa_nil))) (pv 0) (nomark _)))))))))), ?_⟩
    refine ⟨.ref p, rfl, _, _, _, _, true, rfl, .ty _, tyT hp, kit_ty (by decide +kernel), true, rfl, iteF ?_⟩
    refine ⟨.ref p, rfl, .ref p, 2, rfl, .inr ⟨_, hp, rfl⟩, rfl, _, rfl, ifF (by decide) ?_⟩
    refine ⟨.ref p, rfl, p, _, rfl, hp, rfl, _, _, rfl, _, _, rfl, rfl, ?_⟩
    refine ⟨.int f.1, rfl, f.1, rfl, true, rfl, iteF ⟨.int f.2, rfl, f.2, rfl, true, rfl, iteF ?_⟩⟩
    have w0 := w H (Same.refl H)
    unfold fracB at w0 w
    refine ⟨.int f.1, rfl, f.1, rfl, _, 999999999999, rfl, rfl, _, rfl, ?_⟩
    rw [absL]
    cases h1 : decide (f.1.natAbs ≤ 999999999999) with
    | false =>
      refine ifF rfl ?_
      rw [h1, Bool.false_and, Bool.false_and] at w0
      exact w0
    | true =>
      rw [h1, Bool.true_and] at w0 w
      refine ifT rfl ⟨.int f.2, rfl, 1, f.2, rfl, rfl, _, rfl, ?_⟩
      cases h2 : decide (1 ≤ f.2) with
      | false =>
        rw [h2, Bool.false_and, Bool.false_and] at w0
        exact ifF rfl ⟨false, rfl, ifF rfl w0⟩
      | true =>
        refine ifT rfl ⟨f.2, 999999999999, rfl, rfl, ?_⟩
        rw [h2, Bool.true_and] at w0 w
        refine ⟨_, rfl, ?_⟩
        cases h3 : decide (f.2 ≤ 999999999999) with
        | false =>
          rw [h3, Bool.false_and] at w0
          exact ifF rfl w0
        | true =>
          rw [h3, Bool.true_and] at w
          have d1 := of_decide_eq_true h2
          refine ifT rfl ⟨.int f.1, rfl, .int f.2, rfl, f.1, f.2, rfl, by omega, Nat.lt_of_lt_of_le dB (Nat.pow_le_pow_right (by decide) (by decide)), fun q nq => ?_⟩
          have sq := Same.new (o := .tup [.int (red f.1 f.2).1, .int (red f.1 f.2).2]) nq
          refine ⟨.ref p, rfl, .tuple [.int (red f.1 f.2).1, .int (red f.1 f.2).2], .tuple [.int f.1, .int f.2], .tup (SqT.of upd_same) (.cons (.int _) (.cons (.int _) .nil)), .tup (Same.T sq hp) (.cons (.int _) (.cons (.int _) .nil)), rfl, rfl, ?_⟩
          rw [fr_eqv]
          exact w _ sq
end
section
variable {P : Program} {w : World} {K : PySem.W.Frag} {mg : Str → Option Value} {base : Heap} {a : Ad}
def sp_p_is_weighted (K : PySem.W.Frag) : Sp := fun vs H Q _ => ∃ (q : Addr) (wv x : V) (f : QQ), vs = [.ref q] ∧ SqT K H q [wv, x] ∧ FrW K H wv f ∧ ∀ H', Same H H' → Q (.bl (wB f)) H'

theorem ok_p_is_weighted (T : Txt K mg a) : FnOk P w K mg base CX0 5 a.f_p_is_weighted a.fd_p_is_weighted ["pair"] (sp_p_is_weighted K) := by
  have G_p_is_term_fraction := ok_p_is_term_fraction (P := P) (w := w) (base := base) T
  have G_p_is_less := ok_p_is_less (P := P) (w := w) (base := base) T
  refine T.F_p_is_weighted.ok sc_p_is_weighted (fun vs H Q E h => ?_) (fun cdv A outer s H vs Q E hr h => ?_)
  · obtain ⟨q, wv, x, f, rfl, _⟩ := h
    rfl
  · obtain ⟨q, wv, x, f, rfl, hq, hf, w⟩ := h
    refine ⟨_, (pss_cons (ps_if (PW.pt (pw_or (pt_not (pt_val (pe_callB call_isi (by rfl) T.n_isinstance (by decide +kernel) (pa_cons (pv 0) (pa_cons (pe_bltn (v := .ty "tuple") (by rfl) T.n_tuple (by decide +kernel) rfl) pa_nil))))) (pw_or1 (pt_cmpR op_ne (pe_callB call_len (by rfl) T.n_len (by decide +kernel) (pa_cons (pv 0) pa_nil)) pe_int (nomark _))))) (pss_one (ps_ret pe_bl)) pss_nil)
          (pss_one (ps_ret (pe_and (pe_call G_p_is_term_fraction (hr.mono (by first | decide | omega)) (by rfl) T.g_p_is_term_fraction T.F_p_is_term_fraction.kp T.b_p_is_term_fraction .nil pass0 (pa_cons (pe_ix ix_tup (pv 0) pe_int (fun _ _ => rfl)) pa_nil)) (pe_one (pe_call G_p_is_less (hr.mono (by first | decide | omega)) (by rfl) T.g_p_is_less T.F_p_is_less.kp T.b_p_is_less .nil pass0 (pa_cons (pe_glob (v := .ref a.o_ZERO) (by rfl) T.c_ZERO rfl) (pa_cons (pe_ix ix_tup (pv 0) pe_int (fun _ _ => rfl)) pa_nil)))))))), ?_⟩
    refine ⟨.ref q, rfl, _, _, _, _, true, rfl, .ty _, tyT hq, kit_ty (by decide +kernel), true, rfl, iteF ?_⟩
    refine ⟨.ref q, rfl, .ref q, 2, rfl, .inr ⟨_, hq, rfl⟩, rfl, _, rfl, ifF (by decide) ?_⟩
    unfold wB at w
    refine ⟨.ref q, rfl, q, _, 0, _, rfl, rfl, hq, rfl, wv, f, rfl, hf, fun H1 s1 => ⟨_, rfl, ?_⟩⟩
    cases h : fracB f with
    | false =>
      have := w H1 s1
      rw [h, Bool.false_and] at this
      exact ifF rfl this
    | true =>
      obtain ⟨d0, g⟩ := fracB_low h
      have hf1 := hf.same s1
      have up : ∀ {k : Nat}, k < 2 ^ 120 → k < 2 ^ 20000 := fun z => Nat.lt_of_lt_of_le z (Nat.pow_le_pow_right (by decide) (by decide))
      refine ifT rfl ⟨.ref q, rfl, q, _, 0, _, rfl, rfl, Same.T s1 hq, rfl, .ref a.o_ZERO, wv, (0, 1), f, rfl, ⟨⟨_, rfl, T.t_ZERO _⟩, by decide, by decide, up (by decide), up (by decide)⟩, ⟨hf1.fr, d0, g, up hf1.nB, up hf1.dB⟩, ?_⟩
      have := w H1 s1
      rw [h, Bool.true_and] at this
      have e : rlt (0, 1) f = decide (0 < f.1) := decide_eq_decide.mpr (by show 0 * f.2 < f.1 * 1 ↔ _; omega)
      rw [e]
      exact this
end
section
variable {P : Program} {w : World} {K : PySem.W.Frag} {mg : Str → Option Value} {base : Heap} {a : Ad}
/-- pairs of weights and anything -/
def Prs (K : PySem.W.Frag) (H : Hp) (ys : List V) (ws : List QQ) : Prop := ys.length = ws.length ∧ ∀ (i : Nat) y f, ys[i]? = some y → ws[i]? = some f → ∃ q wv x, y = .ref q ∧ SqT K H q [wv, x] ∧ FrW K H wv f
theorem Prs.same {K : PySem.W.Frag} {H H' : Hp} {ys : List V} {ws : List QQ} (h : Prs K H ys ws) (s : Same H H') : Prs K H' ys ws := ⟨h.1, fun i y f a b => by
  obtain ⟨q, wv, x, e, h1, h2⟩ := h.2 i y f a b
  exact ⟨q, wv, x, e, Same.T s h1, h2.same s⟩⟩
def sp_p_is_mixture (K : PySem.W.Frag) : Sp := fun vs H Q _ => ∃ (p : Addr) (ys : List V) (ws : List QQ), vs = [.ref p] ∧ SqT K H p ys ∧ Prs K H ys ws ∧ ys.length ≤ 60 ∧ ∀ H', Same H H' → Q (.bl (mixB ws)) H'

theorem ok_p_is_mixture (T : Txt K mg a) : FnOk P w K mg base CX0 6 a.f_p_is_mixture a.fd_p_is_mixture ["pairs"] (sp_p_is_mixture K) := by
  have G_p_total := ok_p_total (P := P) (w := w) (base := base) T
  have G_p_is_weighted := ok_p_is_weighted (P := P) (w := w) (base := base) T
  obtain ⟨_, v_p_total_1, b_p_total_1⟩ := T.b_p_total_1
  refine T.F_p_is_mixture.ok sc_p_is_mixture (fun vs H Q E h => ?_) (fun cdv A outer s H vs Q E hr h => ?_)
  · obtain ⟨p, ys, ws, rfl, _⟩ := h
    rfl
  · obtain ⟨p, ys, ws, rfl, hp, hP, h60, w⟩ := h
    refine ⟨_, (pss_cons (ps_if (pt_not (pt_val (pe_callB (cr_all rfl) (by rfl) T.n_all (by decide +kernel) (pa_cons (pe_lc (own := [("pair", 1)]) (g := gName 1) rfl sc_p_is_mixture.nd (pi_tup (pv 0)) (blkOk_by (own := [("pair", 1)]) (N := ["pairs", "pair"]) (sc := defScope s_p_is_mixture) (by decide +kernel)) (fun _ _ _ _ _ => (pg_name (i := 1) sc_p_is_mixture.nd rfl (Or.inl rfl))) (fun _ _ _ _ _ => pts_nil) (fun _ _ _ _ _ => (pe_call G_p_is_weighted (hr.mono (by first | decide | omega)) (by rfl) T.g_p_is_weighted T.F_p_is_weighted.kp T.b_p_is_weighted .nil pass0 (pa_cons (pv 1) pa_nil)))) pa_nil)))) (pss_one (ps_ret pe_bl)) pss_nil)
          (pss_one (ps_ret (pe_cmpR (op_eqD hr.units) (pe_call G_p_total (hr.mono (by first | decide | omega)) (by rfl) T.g_p_total T.F_p_total.kp b_p_total_1 v_p_total_1 pass0 (pa_cons (pe_lc (own := [("pair", 1)]) (g := gName 1) rfl sc_p_is_mixture.nd (pi_tup (pv 0)) (blkOk_by (own := [("pair", 1)]) (N := ["pairs", "pair"]) (sc := defScope s_p_is_mixture) (by decide +kernel)) (fun _ _ _ _ _ => (pg_name (i := 1) sc_p_is_mixture.nd rfl (Or.inl rfl))) (fun _ _ _ _ _ => pts_nil) (fun _ _ _ _ _ => (pe_ix (ixT (K := K) rfl) (pv 1) pe_int (fun _ _ => rfl)))) pa_nil)) (pe_tup (pa_cons pe_int (pa_cons pe_int pa_nil))) (nomark _))))), ?_⟩
    have hl := hP.1
    refine ⟨.ref p, rfl, p, rfl, ⟨_, hp⟩, fun D nD => ?_⟩
    refine lc_tup (K := K) (a := p) (xs := ys) (fun i H1 => Same H H1 ∧ H1 D = some (.lst (((ws.take i).map wB).map V.bl))) ⟨Same.new nD, upd_same⟩ (fun i H1 _ h1 => Same.T h1.1 hp) ?_ ?_
    · rintro i y H1 hy ⟨s1, hD⟩
      have il : i < ys.length := (List.getElem?_eq_some_iff.mp hy).1
      have hf : ws[i]? = some (ws[i]'(by omega)) := List.getElem?_eq_getElem _
      obtain ⟨q, wv, x, rfl, hq, fw⟩ := (hP.same s1).2 i y _ hy hf
      refine ⟨rfl, tYes_if ⟨.ref q, rfl, q, wv, x, _, rfl, hq, fw, fun H2 s2 => ?_⟩⟩
      refine ⟨_, s2 _ _ hD, by rw [List.length_map, List.length_map, List.length_take]; exact szl (by omega), fun b o e => ?_, ?_⟩
      · rw [upd_ne (ne_of_none e nD)]; exact s2 _ _ (s1 _ _ e)
      · rw [upd_same, tk_more hf, List.map_append]; rfl
    rintro H1 ⟨s1, hD⟩
    rw [hl, List.take_length] at hD
    refine ⟨D, _, rfl, SqL.of hD, ?_⟩
    have ea : (ws.map wB).all id = ws.all (fun w => fracB w && decide (0 < w.1)) := by rw [List.all_map]; rfl
    rw [ea]
    unfold mixB at w
    cases ha : ws.all (fun w => fracB w && decide (0 < w.1)) with
    | false =>
      have := w H1 s1
      rw [ha, Bool.false_and] at this
      exact ⟨false, rfl, iteT this⟩
    | true =>
      rw [ha, Bool.true_and] at w
      refine ⟨true, rfl, iteF ?_⟩
      refine ⟨.ref p, rfl, p, rfl, ⟨_, Same.T s1 hp⟩, fun L nL => ?_⟩
      refine lc_tup (K := K) (a := p) (xs := ys) (fun i H2 => Same H1 H2 ∧ ∃ vs, H2 L = some (.lst vs) ∧ Frs K H2 vs (ws.take i) 40) ⟨Same.new nL, [], upd_same, Frs.nil'⟩ (fun i H2 _ h2 => Same.T (s1.trans h2.1) hp) ?_ ?_
      · rintro i y H2 hy ⟨s2, vs, hL, hF⟩
        have il : i < ys.length := (List.getElem?_eq_some_iff.mp hy).1
        have hf : ws[i]? = some (ws[i]'(by omega)) := List.getElem?_eq_getElem _
        obtain ⟨q, wv, x, rfl, hq, fw⟩ := (hP.same (s1.trans s2)).2 i y _ hy hf
        have vl := hF.1
        have ok := List.all_eq_true.mp ha _ (List.mem_of_getElem? hf)
        rw [Bool.and_eq_true] at ok
        obtain ⟨d0, g⟩ := fracB_low ok.1
        refine ⟨rfl, tYes_if ⟨.ref q, rfl, q, _, 0, _, rfl, rfl, hq, rfl, vs, hL, by rw [vl, List.length_take]; exact szl (by omega), fun b o e => ?_, vs ++ [wv], upd_same, ?_⟩⟩
        · rw [upd_ne (ne_of_none e nL)]; exact s2 _ _ e
        · rw [List.take_add_one, hf]
          exact (hF.app' (Frs.one' ⟨fw.fr, d0, g, (fracB_bd ok.1).1, (fracB_bd ok.1).2⟩)).put' hL
      rintro H2 ⟨s2, vs, hL, hF⟩
      rw [hl, List.take_length] at hF
      refine ⟨L, vs, ws, .ref a.o_ZERO, (0, 1), rfl, .inl (SqL.of hL), hF, by rw [hF.1]; omega, ⟨⟨_, rfl, T.t_ZERO _⟩, by decide, by decide, by decide, by decide⟩, fun v H3 s3 fv => ?_⟩
      refine ⟨sz (by show 2 ≤ 100000; decide), fun e ne => ?_⟩
      obtain ⟨pv, rfl, hpv⟩ := fv.fr
      have s4 := Same.new (o := .tup [.int 1, .int 1]) ne
      refine ⟨.tuple [.int (ws.foldl radd (0, 1)).1, .int (ws.foldl radd (0, 1)).2], .tuple [.int 1, .int 1], .tup (Same.T s4 hpv) (.cons (.int _) (.cons (.int _) .nil)), .tup (SqT.of upd_same) (.cons (.int _) (.cons (.int _) .nil)), rfl, rfl, ?_⟩
      have e2 := fr_eqv (ws.foldl radd (0, 1)) (1, 1)
      have e3 : PyData.eqv (.tuple [.int (ws.foldl radd (0, 1)).1, .int (ws.foldl radd (0, 1)).2]) (.tuple [.int 1, .int 1]) = decide (ws.foldl radd (0, 1) = (1, 1)) := e2
      rw [e3]
      exact w _ (s1.trans (s2.trans (s3.trans s4)))
end
section
variable {P : Program} {w : World} {K : PySem.W.Frag} {mg : Str → Option Value} {base : Heap} {a : Ad}
def sp_p_has_term_form (K : PySem.W.Frag) : Sp := fun vs H Q _ => ∃ (v : V) (t : Rw) (n : Nat), vs = [v] ∧ RwAt K H (n + 1) v t ∧ ∀ H', Same H H' → Q (.bl t.form) H'

theorem ok_p_has_term_form (T : Txt K mg a) : FnOk P w K mg base CX0 7 a.f_p_has_term_form a.fd_p_has_term_form ["thing"] (sp_p_has_term_form K) := by
  have G_p_is_valid_name := ok_p_is_valid_name (P := P) (w := w) (base := base) T
  have G_p_is_term_fraction := ok_p_is_term_fraction (P := P) (w := w) (base := base) T
  have G_p_is_mixture := ok_p_is_mixture (P := P) (w := w) (base := base) T
  refine T.F_p_has_term_form.ok sc_p_has_term_form (fun vs H Q E h => ?_) (fun cdv A outer s H vs Q E hr h => ?_)
  · obtain ⟨v, t, n, rfl, _⟩ := h
    rfl
  · obtain ⟨v, t, n, rfl, ht, w⟩ := h
    refine ⟨_, (pss_cons (ps_if (PW.pt (pw_or (pt_not (pt_val (pe_callB call_isi (by rfl) T.n_isinstance (by decide +kernel) (pa_cons (pv 0) (pa_cons (pe_bltn (v := .ty "tuple") (by rfl) T.n_tuple (by decide +kernel) rfl) pa_nil))))) (pw_or1 (pt_cmpR op_eq (pe_callB call_len (by rfl) T.n_len (by decide +kernel) (pa_cons (pv 0) pa_nil)) pe_int (nomark _))))) (pss_one (ps_ret pe_bl)) pss_nil)
          (pss_cons (ps_set (i := 1) sc_p_has_term_form.nd rfl (by first | exact Or.inl rfl | exact Or.inr rfl) (pe_ix ix_tup (pv 0) pe_int (fun _ _ => rfl)))
          (pss_cons (ps_set (i := 2) sc_p_has_term_form.nd rfl (by first | exact Or.inl rfl | exact Or.inr rfl) (pe_op op_sub (pe_callB call_len (by rfl) T.n_len (by decide +kernel) (pa_cons (pv 0) pa_nil)) pe_int))
          (pss_cons (ps_if (pt_cmpR op_eq (pv 1) pe_str (nomark _)) (pss_one (ps_ret (pe_and (pe_cmpR op_eq (pv 2) pe_int (nomark _)) (pe_one (pe_call G_p_is_valid_name (hr.mono (by first | decide | omega)) (by rfl) T.g_p_is_valid_name T.F_p_is_valid_name.kp T.b_p_is_valid_name .nil pass0 (pa_cons (pe_ix ix_tup (pv 0) pe_int (fun _ _ => rfl)) pa_nil)))))) pss_nil)
          (pss_cons (ps_if (pt_cmpR op_eq (pv 1) pe_str (nomark _)) (pss_one (ps_ret (pe_and (pe_cmpR op_eq (pv 2) pe_int (nomark _)) (pe_one (pe_call G_p_is_term_fraction (hr.mono (by first | decide | omega)) (by rfl) T.g_p_is_term_fraction T.F_p_is_term_fraction.kp T.b_p_is_term_fraction .nil pass0 (pa_cons (pe_ix ix_tup (pv 0) pe_int (fun _ _ => rfl)) pa_nil)))))) pss_nil)
          (pss_cons (ps_if (pt_cmpR op_eq (pv 1) pe_str (nomark _)) (pss_one (ps_ret (pe_cmpR op_eq (pv 2) pe_int (nomark _)))) pss_nil)
          (pss_cons (ps_if (pt_cmpR op_eq (pv 1) pe_str (nomark _)) (pss_one (ps_ret (pe_and (pe_chain op_le op_le pe_int (pv 2) (pe_glob (v := .int 6) (by rfl) T.c_MAX_OPERANDS ⟨_, rfl⟩)) (pe_one (pe_call G_p_is_mixture (hr.mono (by first | decide | omega)) (by rfl) T.g_p_is_mixture T.F_p_is_mixture.kp T.b_p_is_mixture .nil pass0 (pa_cons (pe_slice sl_tup (pv 0) (po_some pe_int) po_none) pa_nil)))))) pss_nil)
          (pss_one (ps_ret (pe_and (pe_cmpR op_in_seq (pv 1) (pe_tup (pa_cons pe_str (pa_cons pe_str pa_nil))) (by rfl)) (pe_one (pe_chain op_le op_le pe_int (pv 2) (pe_glob (v := .int 6) (by rfl) T.c_MAX_OPERANDS ⟨_, rfl⟩))))))))))))), ?_⟩
    obtain ⟨k, ts⟩ := t
    obtain ⟨l60, xs, hN, hA⟩ := ht
    have hlen := hA.1
    have eqi : ∀ j m : Nat, decide (V.int ((j : Nat) : Int) = V.int (m : Int)) = decide (j = m) := fun j m => decide_eq_decide.mpr ⟨fun y => by have := V.int.inj y; omega, fun y => by rw [y]⟩
    have hM : ∀ j : Nat, (((j + 1 : Nat) : Int) - 1) = ((j : Nat) : Int) := fun j => by omega
    have slot : ∀ j : Nat, (some (some (V.int (((j + 1 : Nat) : Int) - 1))) : Option (Option V)) = some (some (.int ((j : Nat) : Int))) := fun j => by rw [hM]
    match k, hN with
    | .ev ss, ⟨ex, l2, l3, p, e, hp⟩ =>
      subst e ex
      refine ⟨.ref p, rfl, _, _, _, _, true, rfl, .ty _, tyT hp, kit_ty (by decide +kernel), true, rfl, iteF ?_⟩
      refine ⟨.ref p, rfl, .ref p, ss.length + 1, rfl, .inr ⟨_, hp, by rw [List.length_cons, List.length_map]⟩, rfl, _, rfl, ifF (decide_eq_false fun y => by have := V.int.inj y; omega) ?_⟩
      refine ⟨.ref p, rfl, p, _, 0, _, rfl, rfl, hp, atI_nat (j := 0) rfl, .ref p, rfl, .ref p, ss.length + 1, rfl, .inr ⟨_, hp, by rw [List.length_cons, List.length_map]⟩, _, 1, rfl, rfl, ?_⟩
      refine ⟨_, rfl, rfl, _, rfl, ifT (decide_eq_true rfl) ?_⟩
      have w' : ∀ H', Same H H' → Q (.bl (evB ss)) H' := w
      refine ⟨.int ((ss.length : Nat) : Int), slot ss.length, rfl, _, rfl, ?_⟩
      rcases ss with _ | ⟨s, _ | ⟨s2, rest⟩⟩
      · exact ifF (by decide) (w' H (Same.refl H))
      · exact ifT (decide_eq_true rfl) ⟨.ref p, rfl, p, _, 1, _, rfl, rfl, hp, rfl, .str s, rfl, .inl ⟨s, rfl, Nat.le_trans (l3 s List.mem_cons_self) (by decide), w'⟩⟩
      · exact ifF (by
          rw [show decide (V.int (((s :: s2 :: rest).length : Nat) : Int) = V.int 1) = decide ((s :: s2 :: rest).length = 1) from eqi _ 1]
          exact decide_eq_false (by rw [List.length_cons, List.length_cons]; omega)) (w' H (Same.refl H))
    | .dl none, ⟨p, x, ex, e, hp⟩ =>
      subst e ex
      refine ⟨.ref p, rfl, _, _, _, _, true, rfl, .ty _, tyT hp, kit_ty (by decide +kernel), true, rfl, iteF ?_⟩
      refine ⟨.ref p, rfl, .ref p, 1 + 1, rfl, .inr ⟨_, hp, rfl⟩, rfl, _, rfl, ifF (decide_eq_false fun y => by have := V.int.inj y; omega) ?_⟩
      refine ⟨.ref p, rfl, p, _, 0, _, rfl, rfl, hp, atI_nat (j := 0) rfl, .ref p, rfl, .ref p, 1 + 1, rfl, .inr ⟨_, hp, rfl⟩, _, 1, rfl, rfl, ?_⟩
      refine ⟨_, rfl, rfl, _, rfl, ifF (str_no (by decide +kernel)) ⟨_, rfl, rfl, _, rfl, ifT (decide_eq_true rfl) ?_⟩⟩
      exact ⟨_, rfl, rfl, _, rfl, ifF (by decide) (w H (Same.refl H))⟩
    | .dl (some f), ⟨p, x, fv, ex, e, hp, hf⟩ =>
      subst e ex
      refine ⟨.ref p, rfl, _, _, _, _, true, rfl, .ty _, tyT hp, kit_ty (by decide +kernel), true, rfl, iteF ?_⟩
      refine ⟨.ref p, rfl, .ref p, 2 + 1, rfl, .inr ⟨_, hp, rfl⟩, rfl, _, rfl, ifF (decide_eq_false fun y => by have := V.int.inj y; omega) ?_⟩
      refine ⟨.ref p, rfl, p, _, 0, _, rfl, rfl, hp, atI_nat (j := 0) rfl, .ref p, rfl, .ref p, 2 + 1, rfl, .inr ⟨_, hp, rfl⟩, _, 1, rfl, rfl, ?_⟩
      refine ⟨_, rfl, rfl, _, rfl, ifF (str_no (by decide +kernel)) ⟨_, rfl, rfl, _, rfl, ifT (decide_eq_true rfl) ?_⟩⟩
      exact ⟨_, rfl, rfl, _, rfl, ifT (by decide) ⟨.ref p, rfl, p, _, 2, _, rfl, rfl, hp, rfl, fv, f, rfl, hf, w⟩⟩
    | .mx ws, ⟨p, ys, e, hp, l1, l2, hm⟩ =>
      subst e
      refine ⟨.ref p, rfl, _, _, _, _, true, rfl, .ty _, tyT hp, kit_ty (by decide +kernel), true, rfl, iteF ?_⟩
      refine ⟨.ref p, rfl, .ref p, ys.length + 1, rfl, .inr ⟨_, hp, by rw [List.length_cons]⟩, rfl, _, rfl, ifF (decide_eq_false fun y => by have := V.int.inj y; omega) ?_⟩
      refine ⟨.ref p, rfl, p, _, 0, _, rfl, rfl, hp, atI_nat (j := 0) rfl, .ref p, rfl, .ref p, ys.length + 1, rfl, .inr ⟨_, hp, by rw [List.length_cons]⟩, _, 1, rfl, rfl, ?_⟩
      refine ⟨_, rfl, rfl, _, rfl, ifF (str_no (by decide +kernel)) ⟨_, rfl, rfl, _, rfl, ifF (str_no (by decide +kernel)) ⟨_, rfl, rfl, _, rfl, ifF (str_no (by decide +kernel)) ⟨_, rfl, rfl, _, rfl, ifT (decide_eq_true rfl) ?_⟩⟩⟩⟩
      have w' : ∀ H', Same H H' → Q (.bl ((decide (1 ≤ ts.length) && decide (ts.length ≤ 6)) && mixB ws)) H' := w
      rw [← hlen, ← l1] at w'
      refine ⟨.int ((ys.length : Nat) : Int), slot ys.length, 1, _, rfl, rfl, _, rfl, ?_⟩
      by_cases h1 : 1 ≤ ys.length
      · refine ifT (decide_eq_true (by omega)) ⟨_, 6, rfl, rfl, ?_⟩
        rw [decide_eq_true h1, Bool.true_and] at w'
        refine ⟨_, rfl, ?_⟩
        by_cases h6 : ys.length ≤ 6
        · rw [decide_eq_true h6, Bool.true_and] at w'
          refine ifT (decide_eq_true (by omega)) ⟨.ref p, rfl, 1, rfl, p, _, rfl, hp, not_whole _ _, fun c nc => ?_⟩
          rw [cut_one]
          have sc := Same.new (o := .tup ys) nc
          refine ⟨c, ys, ws, rfl, SqT.of upd_same, ⟨by omega, fun i y f a b => ?_⟩, by omega, fun H1 s1 => w' H1 (sc.trans s1)⟩
          have il : i < ys.length := (List.getElem?_eq_some_iff.mp a).1
          have hx : xs[i]? = some (xs[i]'(by omega)) := List.getElem?_eq_getElem _
          obtain ⟨q, wv, e, h3, h4⟩ := hm i y _ f a hx b
          exact ⟨q, wv, _, e, Same.T sc h3, h4.same sc⟩
        · rw [decide_eq_false h6, Bool.false_and] at w'
          exact ifF (decide_eq_false (by omega)) (w' H (Same.refl H))
      · rw [decide_eq_false h1, Bool.false_and, Bool.false_and] at w'
        exact ifF (decide_eq_false (by omega)) ⟨false, rfl, ifF rfl (w' H (Same.refl H))⟩
    | .nn kk, ⟨n1, n2, n3, p, e, hp⟩ =>
      subst e
      refine ⟨.ref p, rfl, _, _, _, _, true, rfl, .ty _, tyT hp, kit_ty (by decide +kernel), true, rfl, iteF ?_⟩
      refine ⟨.ref p, rfl, .ref p, xs.length + 1, rfl, .inr ⟨_, hp, by rw [List.length_cons]⟩, rfl, _, rfl, ifF (decide_eq_false fun y => by have := V.int.inj y; omega) ?_⟩
      refine ⟨.ref p, rfl, p, _, 0, _, rfl, rfl, hp, atI_nat (j := 0) rfl, .ref p, rfl, .ref p, xs.length + 1, rfl, .inr ⟨_, hp, by rw [List.length_cons]⟩, _, 1, rfl, rfl, ?_⟩
      refine ⟨_, rfl, rfl, _, rfl, ifF (decide_eq_false fun y => n1 (V.str.inj y)) ⟨_, rfl, rfl, _, rfl, ifF (decide_eq_false fun y => n2 (V.str.inj y)) ?_⟩⟩
      have w' : ∀ H', Same H H' → Q (.bl (if kk = "median" then decide (ts.length = 3) else (decide (kk = "max") || decide (kk = "min")) && (decide (1 ≤ ts.length) && decide (ts.length ≤ 6)))) H' := w
      rw [← hlen] at w'
      by_cases hm : kk = "median"
      · subst hm
        rw [if_pos rfl] at w'
        refine ⟨_, rfl, rfl, _, rfl, ifT (decide_eq_true rfl) ⟨.int ((xs.length : Nat) : Int), slot xs.length, rfl, ?_⟩⟩
        have := w' H (Same.refl H)
        rw [← eqi xs.length 3] at this
        exact this
      · rw [if_neg hm] at w'
        refine ⟨_, rfl, rfl, _, rfl, ifF (decide_eq_false fun y => hm (V.str.inj y)) ⟨_, rfl, rfl, _, rfl, ifF (decide_eq_false fun y => n3 (V.str.inj y)) ?_⟩⟩
        refine ⟨_, rfl, sz (by show 2 ≤ 100000; decide), fun q nq => ?_⟩
        have sq := Same.new (o := .tup [.str "max", .str "min"]) nq
        refine ⟨q, _, rfl, .inr (SqT.of upd_same), rfl, rfl, _, rfl, ?_⟩
        have ein : inV (.str kk) [.str "max", .str "min"] = (decide (kk = "max") || decide (kk = "min")) := in2 kk
        rw [ein]
        cases hk : (decide (kk = "max") || decide (kk = "min")) with
        | false =>
          rw [hk, Bool.false_and] at w'
          exact ifF rfl (w' _ sq)
        | true =>
          rw [hk, Bool.true_and] at w'
          refine ifT rfl ⟨.int ((xs.length : Nat) : Int), slot xs.length, 1, _, rfl, rfl, _, rfl, ?_⟩
          by_cases h1 : 1 ≤ xs.length
          · refine ifT (decide_eq_true (by omega)) ⟨_, 6, rfl, rfl, ?_⟩
            rw [decide_eq_true h1, Bool.true_and] at w'
            have := w' _ sq
            rw [show decide (xs.length ≤ 6) = decide (((xs.length : Nat) : Int) ≤ 6) from decide_eq_decide.mpr (by omega)] at this
            exact this
          · rw [decide_eq_false h1, Bool.false_and] at w'
            exact ifF (decide_eq_false (by omega)) (w' _ sq)
end
section
variable {P : Program} {w : World} {K : PySem.W.Frag} {mg : Str → Option Value} {base : Heap} {a : Ad}
def sp_p_subterms (K : PySem.W.Frag) : Sp := spSubsR K

theorem ok_p_subterms (T : Txt K mg a) : FnOk P w K mg base CX0 1 a.f_p_subterms a.fd_p_subterms ["term"] (sp_p_subterms K) := by
  refine T.F_p_subterms.ok sc_p_subterms (fun vs H Q E h => ?_) (fun cdv A outer s H vs Q E hr h => ?_)
  · obtain ⟨v, t, n, rfl, _⟩ := h
    rfl
  · obtain ⟨v, t, n, rfl, ht, w⟩ := h
    refine ⟨_, (pss_cons (ps_set (i := 1) sc_p_subterms.nd rfl (by first | exact Or.inl rfl | exact Or.inr rfl) (pe_ix ix_tup (pv 0) pe_int (fun _ _ => rfl)))
          (pss_cons (ps_if (pt_cmpR op_eq (pv 1) pe_str (nomark _)) (pss_one (ps_ret (pe_lst pa_nil))) pss_nil)
          (pss_cons (ps_if (pt_cmpR op_eq (pv 1) pe_str (nomark _)) (pss_one (ps_ret (pe_lst (pa_cons (pe_ix ix_tup (pv 0) pe_int (fun _ _ => rfl)) pa_nil)))) pss_nil)
          (pss_cons (ps_if (pt_cmpR op_eq (pv 1) pe_str (nomark _)) (pss_one (ps_ret (pe_lc (own := [("pair", 2)]) (g := gName 2) rfl sc_p_subterms.nd (pi_tup (pe_slice sl_tup (pv 0) (po_some pe_int) po_none)) (blkOk_by (own := [("pair", 2)]) (N := ["term", "kind", "pair"]) (sc := defScope s_p_subterms) (by decide +kernel)) (fun _ _ _ _ _ => (pg_name (i := 2) sc_p_subterms.nd rfl (Or.inl rfl))) (fun _ _ _ _ _ => pts_nil) (fun _ _ _ _ _ => (pe_ix (ixT (K := K) rfl) (pv 2) pe_int (fun _ _ => rfl)))))) pss_nil)
          (pss_one (ps_ret (pe_callTy call_list_of (by rfl) T.n_list (by decide +kernel) (pa_cons (pe_slice sl_tup (pv 0) (po_some pe_int) po_none) pa_nil)))))))), ?_⟩
    obtain ⟨k, ts⟩ := t
    obtain ⟨l60, xs, hN, hA⟩ := ht
    have hlen := hA.1
    match k, hN with
    | .ev ss, ⟨ex, _, _, p, e, hp⟩ =>
      subst e ex
      have e0 : ts = [] := List.length_eq_zero_iff.mp hlen.symm
      subst e0
      refine ⟨.ref p, rfl, p, _, 0, _, rfl, rfl, hp, atI_nat (j := 0) rfl, ?_⟩
      refine ⟨_, rfl, rfl, _, rfl, ifT (decide_eq_true rfl) ?_⟩
      exact ⟨sz (by show 0 ≤ 100000; decide), fun l nl => w l _ [] (Same.new nl) nl upd_same All3.nil⟩
    | .dl none, ⟨p, x, ex, e, hp⟩ =>
      subst e ex
      refine ⟨.ref p, rfl, p, _, 0, _, rfl, rfl, hp, atI_nat (j := 0) rfl, ?_⟩
      refine ⟨_, rfl, rfl, _, rfl, ifF (str_no (by decide +kernel)) ⟨_, rfl, rfl, _, rfl, ifT (decide_eq_true rfl) ?_⟩⟩
      exact ⟨.ref p, rfl, p, _, 1, _, rfl, rfl, hp, rfl, sz (by show 1 ≤ 100000; decide), fun l nl => w l _ [x] (Same.new nl) nl upd_same (hA.mono fun _ _ z => z.same (Same.new nl))⟩
    | .dl (some f), ⟨p, x, fv, ex, e, hp, _⟩ =>
      subst e ex
      refine ⟨.ref p, rfl, p, _, 0, _, rfl, rfl, hp, atI_nat (j := 0) rfl, ?_⟩
      refine ⟨_, rfl, rfl, _, rfl, ifF (str_no (by decide +kernel)) ⟨_, rfl, rfl, _, rfl, ifT (decide_eq_true rfl) ?_⟩⟩
      exact ⟨.ref p, rfl, p, _, 1, _, rfl, rfl, hp, rfl, sz (by show 1 ≤ 100000; decide), fun l nl => w l _ [x] (Same.new nl) nl upd_same (hA.mono fun _ _ z => z.same (Same.new nl))⟩
    | .mx ws, ⟨p, ys, e, hp, l1, l2, hm⟩ =>
      subst e
      refine ⟨.ref p, rfl, p, _, 0, _, rfl, rfl, hp, atI_nat (j := 0) rfl, ?_⟩
      refine ⟨_, rfl, rfl, _, rfl, ifF (str_no (by decide +kernel)) ⟨_, rfl, rfl, _, rfl, ifF (str_no (by decide +kernel)) ⟨_, rfl, rfl, _, rfl, ifT (decide_eq_true rfl) ?_⟩⟩⟩
      refine ⟨.ref p, rfl, 1, rfl, p, _, rfl, hp, not_whole _ _, fun c nc => ?_⟩
      rw [cut_one]
      have sc := Same.new (o := .tup ys) nc
      refine ⟨c, rfl, ⟨_, SqT.of upd_same⟩, fun D nD => ?_⟩
      have nD0 : H D = none := sc.free nD
      have cD : c ≠ D := ne_of_none upd_same nD
      refine lc_tup (K := K) (a := c) (xs := ys) (fun i H1 => Same H H1 ∧ H1 c = some (.tup ys) ∧ H1 D = some (.lst (xs.take i))) ⟨sc.trans (Same.new nD), by rw [upd_ne cD]; exact upd_same, upd_same⟩ (fun i H1 _ h1 => SqT.of h1.2.1) ?_ ?_
      · rintro i y H1 hy ⟨s1, hc, hD⟩
        have il : i < ys.length := (List.getElem?_eq_some_iff.mp hy).1
        have hx : xs[i]? = some (xs[i]'(by omega)) := List.getElem?_eq_getElem _
        have hf : ws[i]? = some (ws[i]'(by omega)) := List.getElem?_eq_getElem _
        obtain ⟨q, wv, rfl, hq, _⟩ := hm i y _ _ hy hx hf
        have hq1 := Same.T s1 hq
        refine ⟨rfl, tYes_if ?_⟩
        refine ⟨.ref q, rfl, q, _, 1, _, rfl, rfl, hq1, rfl, ?_⟩
        refine ⟨_, hD, ?_, fun b o e => ?_, ?_, ?_⟩
        · rw [List.length_take]; exact szl (by omega)
        · rw [upd_ne (ne_of_none e nD0)]; exact s1 _ _ e
        · rw [upd_ne cD]; exact hc
        · rw [upd_same, List.take_add_one, hx]; rfl
      · rintro H1 ⟨s1, hc, hD⟩
        rw [show ys.length = xs.length from l1, List.take_length] at hD
        exact w D H1 xs s1 nD0 hD (hA.mono fun _ _ z => z.same s1)
    | .nn kk, ⟨n1, n2, n3, p, e, hp⟩ =>
      subst e
      refine ⟨.ref p, rfl, p, _, 0, _, rfl, rfl, hp, atI_nat (j := 0) rfl, ?_⟩
      refine ⟨_, rfl, rfl, _, rfl, ifF (decide_eq_false fun y => n1 (V.str.inj y)) ⟨_, rfl, rfl, _, rfl, ifF (decide_eq_false fun y => n2 (V.str.inj y)) ⟨_, rfl, rfl, _, rfl, ifF (decide_eq_false fun y => n3 (V.str.inj y)) ?_⟩⟩⟩
      refine ⟨.ref p, rfl, 1, rfl, p, _, rfl, hp, not_whole _ _, fun c nc => ?_⟩
      rw [cut_one]
      have sc := Same.new (o := .tup xs) nc
      refine ⟨c, xs, rfl, .inr (SqT.of upd_same), fun l nl => ?_⟩
      have s2 := sc.trans (Same.new (o := .lst xs) nl)
      exact w l _ xs s2 (sc.free nl) upd_same (hA.mono fun _ _ z => z.same s2)
end
section
variable {P : Program} {w : World} {K : PySem.W.Frag} {mg : Str → Option Value} {base : Heap} {a : Ad}
def sp_p_is_valid_term (K : PySem.W.Frag) : Sp := fun vs H Q _ => ∃ (v : V) (t : Rw) (N : Nat), vs = [v] ∧ RwAt K H N v t ∧ 11 ≤ N ∧ ∀ H', Same H H' → Q (.bl (isT 10 t && decide (t.size ≤ 40))) H'

theorem ok_p_is_valid_term (T : Txt K mg a) : FnOk P w K mg base CX0 8 a.f_p_is_valid_term a.fd_p_is_valid_term ["thing"] (sp_p_is_valid_term K) := by
  have G_p_subterms := ok_p_subterms (P := P) (w := w) (base := base) T
  have G_p_has_term_form := ok_p_has_term_form (P := P) (w := w) (base := base) T
  refine T.F_p_is_valid_term.ok sc_p_is_valid_term (fun vs H Q E h => ?_) (fun cdv A outer s H vs Q E hr h => ?_)
  · obtain ⟨v, t, N, rfl, _⟩ := h
    rfl
  · obtain ⟨v, t, N, rfl, ht, hN, w⟩ := h
    refine ⟨_, (pss_cons (ps_set (i := 1) sc_p_is_valid_term.nd rfl (by first | exact Or.inl rfl | exact Or.inr rfl) (pe_lst (pa_cons (pv 0) pa_nil)))
          (pss_cons (ps_set (i := 2) sc_p_is_valid_term.nd rfl (by first | exact Or.inl rfl | exact Or.inr rfl) pe_int)
          (pss_cons (ps_set (i := 3) sc_p_is_valid_term.nd rfl (by first | exact Or.inl rfl | exact Or.inr rfl) pe_int)
          (pss_cons (ps_while PassesOwn.never (pt_cmpR op_gt (pe_callB call_len (by rfl) T.n_len (by decide +kernel) (pa_cons (pv 1) pa_nil)) pe_int (nomark _)) (pss_cons (ps_aug (i := 2) sc_p_is_valid_term.nd rfl (by first | exact Or.inl rfl | exact Or.inr rfl) (pe_callB call_len (by rfl) T.n_len (by decide +kernel) (pa_cons (pv 1) pa_nil)) ip_add)
          (pss_cons (ps_aug (i := 3) sc_p_is_valid_term.nd rfl (by first | exact Or.inl rfl | exact Or.inr rfl) pe_int ip_add)
          (pss_cons (ps_if (PW.pt (pw_or (pt_cmpR op_gt (pv 2) (pe_glob (v := .int 40) (by rfl) T.c_MAX_SIZE ⟨_, rfl⟩) (nomark _)) (pw_or1 (pt_cmpR op_gt (pv 3) (pe_glob (v := .int 10) (by rfl) T.c_MAX_DEPTH ⟨_, rfl⟩) (nomark _))))) (pss_one (ps_ret pe_bl)) pss_nil)
          (pss_cons (ps_if (pt_not (pt_val (pe_callB (cr_all rfl) (by rfl) T.n_all (by decide +kernel) (pa_cons (pe_lc (own := [("part", 4)]) (g := gName 4) rfl sc_p_is_valid_term.nd (pi_list (pv 1)) (blkOk_by (own := [("part", 4)]) (N := ["thing", "level", "size", "depth", "part", "whole"]) (sc := defScope s_p_is_valid_term) (by decide +kernel)) (fun _ _ _ _ _ => (pg_name (i := 4) sc_p_is_valid_term.nd rfl (Or.inl rfl))) (fun _ _ _ _ _ => pts_nil) (fun _ _ _ _ _ => (pe_call G_p_has_term_form (hr.mono (by first | decide | omega)) (by rfl) T.g_p_has_term_form T.F_p_has_term_form.kp T.b_p_has_term_form .nil pass0 (pa_cons (pv 4) pa_nil)))) pa_nil)))) (pss_one (ps_ret pe_bl)) pss_nil)
          (pss_one (ps_setLc2 (i := 1) (own := [("whole", 5), ("part", 4)]) (vs1 := [4])  rfl sc_p_is_valid_term.nd rfl rfl (sw_true rfl rfl rfl (by decide +kernel)) (pi_list (pv 1)) (blkOk_by (own := [("whole", 5), ("part", 4)]) (N := ["thing", "level", "size", "depth", "part", "whole"]) (sc := defScope s_p_is_valid_term) (by decide +kernel)) (by decide) (fun _ _ _ _ _ => (pg_name (i := 5) sc_p_is_valid_term.nd rfl (Or.inl rfl))) (fun _ _ _ _ _ => pts_nil) (fun _ _ _ _ _ => (piLK (K := K) rfl (pe_call G_p_subterms (hr.mono (by first | decide | omega)) (by rfl) T.g_p_subterms T.F_p_subterms.kp T.b_p_subterms .nil pass0 (pa_cons (pv 5) pa_nil)))) (fun _ _ _ _ _ => (pg_name (i := 4) sc_p_is_valid_term.nd rfl (Or.inl rfl))) (fun _ _ _ _ _ => pts_nil) (fun _ _ _ _ _ => (pv 4)))))))))
          (pss_one (ps_ret pe_bl)))))), ?_⟩
    refine ⟨v, rfl, sz (by show 1 ≤ 100000; decide), fun l0 nl0 => ?_⟩
    have s0 := Same.new (o := .lst [v]) nl0
    have goal0 : bfs 10 [t] 0 = (isT 10 t && decide (t.size ≤ 40)) := by
      rw [bfs_eq 10 [t] 0 (by decide), Rw.sizes, Rw.sizes, List.all_cons, List.all_nil, Bool.and_true, show 0 + (t.size + 0) = t.size by omega]
    rw [← goal0] at w
    refine ⟨fun m σ H' => ∃ (l : Addr) (xs : List V) (ts : List Rw) (sz d : Nat), σ = [some v, some (.ref l), some (.int (sz : Nat)), some (.int (d : Nat)), none, none] ∧ Same H H' ∧ H' l = some (.lst xs) ∧ All3 (RwAt K H' (N - d)) xs ts ∧ xs.length ≤ 90000 ∧ sz ≤ 40 ∧ d ≤ 10 ∧ m = 10 - d ∧ bfs 10 [t] 0 = bfs (10 - d) ts sz, ⟨_, l0, [v], [t], 0, 0, rfl, s0, upd_same, All3.one (ht.same s0), by show 1 ≤ 90000; decide, by decide, by decide, rfl, rfl⟩, ?_⟩
    rintro m σ H1 ⟨l, xs, ts, z, d, rfl, s1, hl, hA, x3, z4, d1, rfl, hb⟩
    have hlen := hA.1
    refine ⟨.ref l, rfl, .ref l, xs.length, rfl, .inl ⟨_, SqL.of hl, rfl⟩, _, 0, rfl, rfl, _, rfl, ite2 (fun e => ?_) (fun e => ?_)⟩
    rotate_left
    · have x0 : xs = [] := List.length_eq_zero_iff.mp (by
        by_cases q : xs.length = 0
        · exact q
        · exact absurd (decide_eq_true (by omega)) e)
      have t0 : ts = [] := List.length_eq_zero_iff.mp (by rw [← hlen, x0]; rfl)
      have : bfs 10 [t] 0 = true := by
        rw [hb, t0]
        cases (10 - d) <;> rfl
      rw [this] at w
      exact w H1 s1
    have x1 : 1 ≤ xs.length := by have := of_decide_eq_true e; omega
    have tne : ts.isEmpty = false := by
      cases ts with
      | nil => rw [List.length_nil] at hlen; omega
      | cons => rfl
    refine ⟨fun σ' H' => ∃ (l : Addr) (xs' : List V) (ts' : List Rw) (z' : Nat), σ' = [some v, some (.ref l), some (.int (z' : Nat)), some (.int ((d + 1 : Nat) : Int)), none, none] ∧ Same H H' ∧ H' l = some (.lst xs') ∧ All3 (RwAt K H' (N - (d + 1))) xs' ts' ∧ xs'.length ≤ 90000 ∧ z' ≤ 40 ∧ d + 1 ≤ 10 ∧ bfs 10 [t] 0 = bfs (10 - (d + 1)) ts' z', ?_, ?_⟩
    · rintro σ' H' ⟨l', xs', ts', z', rfl, a1, a2, a3, a4, a5, a6, a7⟩
      exact ⟨10 - (d + 1), by omega, l', xs', ts', z', d + 1, rfl, a1, a2, a3, a4, a5, a6, rfl, a7⟩
    refine ⟨.int (z : Nat), rfl, .ref l, rfl, .ref l, xs.length, rfl, .inl ⟨_, SqL.of hl, rfl⟩, _, _, rfl, rfl, ?_⟩
    refine ⟨.int (d : Nat), rfl, _, 1, rfl, rfl, ?_⟩
    have no : bfs 10 [t] 0 = false → ∀ H', Same H H' → Q (.bl false) H' := fun h H' s => by
      have := w H' s
      rw [h] at this
      exact this
    have step : ∀ k, 10 - d = k + 1 → bfs 10 [t] 0 = (decide (z + xs.length ≤ 40) && (ts.all Rw.form && bfs k (ts.flatMap Rw.subs) (z + xs.length))) := fun k hk => by
      rw [hb, hk, bfs_succ, tne, Bool.false_or, hlen]
    refine ⟨_, rfl, _, 40, rfl, rfl, _, rfl, ite2 (fun e4 => ?_) (fun e4 => ?_)⟩
    · have g4 : ¬ z + xs.length ≤ 40 := by
        have q4 : (40 : Int) < (z : Int) + (xs.length : Int) := of_decide_eq_true e4
        omega
      refine iteT (no ?_ H1 s1)
      cases hk : 10 - d with
      | zero => rw [hb, hk]; exact tne
      | succ k => rw [step k hk, decide_eq_false g4, Bool.false_and]
    have g4 : z + xs.length ≤ 40 := by
      by_cases q : z + xs.length ≤ 40
      · exact q
      · exact absurd (decide_eq_true (show (40 : Int) < (z : Int) + (xs.length : Int) by omega)) e4
    refine ⟨_, rfl, _, 10, rfl, rfl, _, rfl, ite2 (fun e5 => ?_) (fun e5 => ?_)⟩
    · have g5 : 10 - d = 0 := by
        have q5 : (10 : Int) < (d : Int) + 1 := of_decide_eq_true e5
        omega
      refine no ?_ H1 s1
      rw [hb, g5]
      exact tne
    have g5 : d + 1 ≤ 10 := by
      by_cases q : d + 1 ≤ 10
      · exact q
      · exact absurd (decide_eq_true (show (10 : Int) < (d : Int) + 1 by omega)) e5
    have st := step (10 - (d + 1)) (by omega)
    rw [decide_eq_true g4, Bool.true_and] at st
    have e40 : N - d = (N - (d + 1)) + 1 := by omega
    rw [e40] at hA
    -- the forms
    refine ⟨.ref l, rfl, l, rfl, ⟨_, SqL.of hl⟩, fun D nD => ?_⟩
    have lD : l ≠ D := ne_of_none hl nD
    refine lc_list (K := K) (a := l) (xs := xs) (fun i H2 => Same H1 H2 ∧ H2 D = some (.lst (((ts.take i).map Rw.form).map V.bl))) ⟨Same.new nD, upd_same⟩ (fun i H2 _ h2 => SqL.of (h2.1 _ _ hl)) ?_ ?_
    · rintro i x H2 hx ⟨s2, hD⟩
      obtain ⟨u, hu, tu⟩ := hA.at hx
      have il : i < xs.length := (List.getElem?_eq_some_iff.mp hx).1
      refine ⟨rfl, tYes_if ⟨x, rfl, x, u, _, rfl, tu.same s2, fun H3 s3 => ?_⟩⟩
      refine ⟨_, s3 _ _ hD, by rw [List.length_map, List.length_map, List.length_take]; exact szl (by omega), fun b o e => ?_, ?_⟩
      · rw [upd_ne (ne_of_none e nD)]; exact s3 _ _ (s2 _ _ e)
      · rw [upd_same, tk_more hu, List.map_append]; rfl
    rintro H2 ⟨s2, hD⟩
    rw [hlen, List.take_length] at hD
    refine ⟨D, _, rfl, SqL.of hD, ?_⟩
    have ea : (ts.map Rw.form).all id = ts.all Rw.form := by rw [List.all_map]; rfl
    rw [ea]
    cases hf : ts.all Rw.form with
    | false =>
      rw [hf, Bool.false_and] at st
      exact ⟨false, rfl, iteT (no st H2 (s1.trans s2))⟩
    | true =>
      rw [hf, Bool.true_and] at st
      refine ⟨true, rfl, iteF ?_⟩
      have hl2 := s2 _ _ hl
      have hA2 := hA.mono fun _ _ q => q.same s2
      refine ⟨.ref l, rfl, l, rfl, ⟨_, SqL.of hl2⟩, fun L nL => ?_⟩
      have lL : l ≠ L := ne_of_none hl2 nL
      refine ⟨fun i m H3 => i + m = xs.length ∧ Same H2 H3 ∧ ∃ ys, H3 L = some (.lst ys) ∧ All3 (RwAt K H3 (N - (d + 1))) ys ((ts.take i).flatMap Rw.subs) ∧ ys.length ≤ 2000 * i, ⟨xs.length, by omega, Same.new nL, [], upd_same, All3.nil, Nat.le_refl _⟩, fun i m H3 hW => ?_⟩
      obtain ⟨em, s3, ys, hL, hY, yl⟩ := hW
      by_cases hi : i < xs.length
      · refine .inr ⟨⟨xs, xs[i], SqL.of (s3 _ _ hl2), List.getElem?_eq_getElem hi⟩, fun H4 => Same H2 H4 ∧ ∃ ys, H4 L = some (.lst ys) ∧ All3 (RwAt K H4 (N - (d + 1))) ys ((ts.take (i + 1)).flatMap Rw.subs) ∧ ys.length ≤ 2000 * (i + 1), fun H4 hN => ⟨m - 1, by omega, by omega, hN⟩, fun x H4 hy => ?_⟩
        obtain ⟨rfl, hx⟩ := hy
        have hx' := hx xs (SqL.of (s3 _ _ hl2))
        obtain ⟨u, hu, tu⟩ := hA2.at hx'
        have tu3 := tu.same s3
        refine ⟨rfl, tYes_if ⟨x, rfl, x, u, N - (d + 1), rfl, tu3, fun l3 H5 zs s5 nl3 hl3 hZ => ⟨l3, rfl, ⟨_, SqL.of hl3⟩, ?_⟩⟩⟩
        have l3L : l3 ≠ L := fun q => by rw [q, hL] at nl3; cases nl3
        have u2000 : zs.length ≤ 2000 := by rw [hZ.1]; exact tu3.ar.1
        refine ⟨fun j k H6 => j + k = zs.length ∧ Same H2 H6 ∧ H6 l3 = some (.lst zs) ∧ ∃ ys', H6 L = some (.lst ys') ∧ All3 (RwAt K H6 (N - (d + 1))) zs u.subs ∧ All3 (RwAt K H6 (N - (d + 1))) ys' ((ts.take i).flatMap Rw.subs ++ u.subs.take j) ∧ ys'.length = ys.length + j, ⟨zs.length, by omega, s3.trans s5, hl3, ys, s5 _ _ hL, hZ, by rw [List.take_zero, List.append_nil]; exact hY.mono fun _ _ q => q.same s5, by omega⟩, fun j k H6 hW6 => ?_⟩
        obtain ⟨ek, s6, hl6, ys', hL6, hZ6, hY6, yl6⟩ := hW6
        by_cases hj : j < zs.length
        · refine .inr ⟨⟨zs, zs[j], SqL.of hl6, List.getElem?_eq_getElem hj⟩, fun H7 => Same H2 H7 ∧ H7 l3 = some (.lst zs) ∧ ∃ ys', H7 L = some (.lst ys') ∧ All3 (RwAt K H7 (N - (d + 1))) zs u.subs ∧ All3 (RwAt K H7 (N - (d + 1))) ys' ((ts.take i).flatMap Rw.subs ++ u.subs.take (j + 1)) ∧ ys'.length = ys.length + (j + 1), fun H7 hN => ⟨k - 1, by omega, by omega, hN⟩, fun y H7 hy7 => ?_⟩
          obtain ⟨rfl, hyy⟩ := hy7
          have hy' := hyy zs (SqL.of hl6)
          obtain ⟨q, hq, tq⟩ := hZ6.at hy'
          refine ⟨rfl, tYes_if ⟨y, rfl, ys', hL6, szl (by omega), fun b o e => ?_, ?_, ys' ++ [y], upd_same, hZ6.mono fun _ _ p => p.put hL6, ?_, by rw [List.length_append, yl6]; rfl⟩⟩
          · rw [upd_ne (ne_of_none e nL)]; exact s6 _ _ e
          · rw [upd_ne l3L]; exact hl6
          · rw [List.take_add_one, hq, ← List.append_assoc]
            exact (hY6.mono fun _ _ p => p.put hL6).app (All3.one (tq.put hL6))
        · have ej : j = zs.length := by omega
          subst ej
          refine .inl ⟨⟨zs, SqL.of hl6, Nat.le_refl _⟩, s6, ys', hL6, ?_, by omega⟩
          rw [hZ6.1, List.take_length] at hY6
          have e : (ts.take (i + 1)).flatMap Rw.subs = (ts.take i).flatMap Rw.subs ++ u.subs := by
            rw [List.take_add_one, hu, List.flatMap_append]
            show _ ++ List.flatMap Rw.subs [u] = _
            rw [List.flatMap_cons, List.flatMap_nil, List.append_nil]
          rw [e]
          exact hY6
      · have ei : i = xs.length := by omega
        subst ei
        refine .inl ⟨⟨xs, SqL.of (s3 _ _ hl2), Nat.le_refl _⟩, ?_⟩
        rw [hlen, List.take_length] at hY
        exact ⟨L, ys, _, z + xs.length, by rw [show ((z + xs.length : Nat) : Int) = (z : Int) + (xs.length : Int) by omega, show ((d + 1 : Nat) : Int) = (d : Int) + 1 by omega]; rfl, s1.trans (s2.trans s3), hL, hY, by omega, g4, g5, st⟩
end
section
variable {P : Program} {w : World} {K : PySem.W.Frag} {mg : Str → Option Value} {base : Heap} {a : Ad}
def sp_p_event_names (K : PySem.W.Frag) : Sp := spNamesR K 12

theorem ok_p_event_names_n (T : Txt K mg a) : ∀ n, FnOk P w K mg base CX0 (n + 1) a.f_p_event_names a.fd_p_event_names ["term"] (spNamesR K n)
  | 0 => fn_false
  | n + 1 => by
    have G_p_subterms := ok_p_subterms (P := P) (w := w) (base := base) T
    have G_p_event_names := ok_p_event_names_n T n
    refine T.F_p_event_names.ok sc_p_event_names (fun vs H Q E h => ?_) (fun cdv A outer s H vs Q E hr h => ?_)
    · obtain ⟨v, t, rfl, _⟩ := h
      rfl
    obtain ⟨v, t, rfl, ht, one0, fl, w⟩ := h
    have ar := ht.ar
    refine ⟨_, (pss_cons (ps_if (pt_cmpR op_eq (pe_ix ix_tup (pv 0) pe_int (fun _ _ => rfl)) pe_str (nomark _)) (pss_one (ps_ret (pe_lst (pa_cons (pe_ix ix_tup (pv 0) pe_int (fun _ _ => rfl)) pa_nil)))) pss_nil)
      (pss_cons (ps_set (i := 1) sc_p_event_names.nd rfl (by first | exact Or.inl rfl | exact Or.inr rfl) (pe_lst pa_nil))
      (pss_cons (ps_for PassesOwn.never rfl (pi_list (pe_call G_p_subterms (hr.mono (by first | decide | omega)) (by rfl) T.g_p_subterms T.F_p_subterms.kp T.b_p_subterms .nil pass0 (pa_cons (pv 0) pa_nil))) (pg_name (i := 2) sc_p_event_names.nd rfl (by first | exact Or.inl rfl | exact Or.inr rfl)) (pss_one (ps_for PassesOwn.never rfl (pi_list (pe_call G_p_event_names (hr.mono (by first | decide | omega)) (by rfl) T.g_p_event_names T.F_p_event_names.kp T.b_p_event_names .nil pass0 (pa_cons (pv 2) pa_nil))) (pg_name (i := 3) sc_p_event_names.nd rfl (by first | exact Or.inl rfl | exact Or.inr rfl)) (pss_one (ps_if (pt_cmpR op_notIn_seq (pv 3) (pv 1) (by rfl)) (pss_one (ps_expr (pe_bm PySem.F.plainAttrs_list PySem.F.slot_list_append PySem.F.type_list_append mt_append (pv 1) (pa_cons (pv 3) pa_nil)))) pss_nil)))))
      (pss_one (ps_ret (pv 1)))))), ?_⟩
    obtain ⟨k, ts⟩ := t
    by_cases hev : ∃ ss, k = .ev ss
    · obtain ⟨ss, rfl⟩ := hev
      obtain ⟨_, xs, ⟨ex, _, _, p, rfl, hp⟩, hA⟩ := ht
      obtain ⟨s, rfl⟩ : ∃ s, ss = [s] := one0.1 _ rfl
      have e0 : ts = [] := List.length_eq_zero_iff.mp (by rw [← hA.1, ex]; rfl)
      subst e0
      refine ⟨.ref p, rfl, p, _, 0, _, rfl, rfl, hp, rfl, rfl, _, rfl, ifT (decide_eq_true rfl) ?_⟩
      refine ⟨.ref p, rfl, p, _, 1, _, rfl, rfl, hp, rfl, sz (by show 1 ≤ 100000; decide), fun l nl => ?_⟩
      exact w l _ (Same.new nl) nl upd_same
    · have hd : ∃ p k' ys, v = .ref p ∧ SqT K H p (.str k' :: ys) ∧ k' ≠ "event" := by
        obtain ⟨_, xs, hN, _⟩ := id ht
        match k, hN, hev with
        | .ev ss, _, hev => exact absurd ⟨ss, rfl⟩ hev
        | .dl none, ⟨p, x, _, e, hp⟩, _ => exact ⟨p, _, _, e, hp, by decide +kernel⟩
        | .dl (some f), ⟨p, x, fv, _, e, hp, _⟩, _ => exact ⟨p, _, _, e, hp, by decide +kernel⟩
        | .mx ws, ⟨p, ys, e, hp, _⟩, _ => exact ⟨p, _, _, e, hp, by decide +kernel⟩
        | .nn k, ⟨n1, _, _, p, e, hp⟩, _ => exact ⟨p, _, _, e, hp, n1⟩
      obtain ⟨p, k', ys, rfl, hp, ne⟩ := hd
      refine ⟨.ref p, rfl, p, _, 0, _, rfl, rfl, hp, atI_nat (j := 0) rfl, rfl, _, rfl, ifF (decide_eq_false fun y => ne (V.str.inj y)) ?_⟩
      refine ⟨sz (by show 0 ≤ 100000; decide), fun nm nnm => ?_⟩
      have s0 := Same.new (o := .lst []) nnm
      refine ⟨.ref p, rfl, .ref p, .mk k ts, n, rfl, RwAt.same s0 (n := n + 1) ht, fun l H1 xs s1 nl hl hA => ?_⟩
      have hnm1 : H1 nm = some (.lst []) := s1 _ _ upd_same
      have lnm : l ≠ nm := fun z => by rw [z, upd_same] at nl; cases nl
      have hA1 : xs.length = ts.length := hA.1
      refine ⟨l, rfl, ⟨_, SqL.of hl⟩, for_list (K := K) (a := l) (xs := xs) (fun i σ H2 => ∃ y2 y3, σ = [some (.ref p), some (.ref nm), y2, y3] ∧ Same H H2 ∧ H2 l = some (.lst xs) ∧ All3 (RwAt K H2 n) xs ts ∧ H2 nm = some (.lst ((ded (Rw.flats (ts.take i))).map V.str))) ⟨none, none, rfl, s0.trans s1, hl, hA, hnm1⟩ (fun i σ H2 _ ⟨_, _, _, _, z, _⟩ => SqL.of z) ?_ ?_⟩
      · rintro i x σ H2 hx ⟨y2, y3, rfl, s2, hl2, hA2, hnm⟩
        obtain ⟨u, hu, tu⟩ := hA2.at hx
        have il : i < xs.length := (List.getElem?_eq_some_iff.mp hx).1
        have fu : u.flat.length + (Rw.flats (ts.take i)).length ≤ 1000 := by
          have e := flats_takeR hu
          have e2 : (Rw.flats (ts.take (i + 1))).length ≤ (Rw.flats ts).length := by
            have tk : ∀ (m : Nat) (l : List Rw), (Rw.flats (l.take m)).length ≤ (Rw.flats l).length := by
              intro m
              induction m with
              | zero => intro l; rw [List.take_zero]; exact Nat.zero_le _
              | succ m ih =>
                intro l
                cases l with
                | nil => exact Nat.le_refl _
                | cons a l => rw [List.take_succ_cons, Rw.flats, Rw.flats, List.length_append, List.length_append]; have := ih l; omega
            exact tk _ _
          have e3 : (Rw.mk k ts).flat = Rw.flats ts := flat_node hev
          rw [e3] at fl
          rw [e, List.length_append] at e2
          omega
        refine ⟨x, rfl, ?_⟩
        cases n with
        | zero => exact tu.elim
        | succ n =>
          refine ⟨x, u, rfl, tu, one0.2 u (List.mem_of_getElem? hu), by omega, fun l3 H3 s3 nl3 hl3 => ?_⟩
          have n3 : l3 ≠ nm := fun z => by rw [z, hnm] at nl3; cases nl3
          have n3l : l3 ≠ l := fun z => by rw [z, hl2] at nl3; cases nl3
          refine ⟨l3, rfl, ⟨_, SqL.of hl3⟩, for_list (K := K) (a := l3) (xs := (ded u.flat).map V.str) (fun j σ H4 => ∃ y3, σ = [some (.ref p), some (.ref nm), some x, y3] ∧ Same H H4 ∧ H4 l = some (.lst xs) ∧ All3 (RwAt K H4 (n + 1)) xs ts ∧ H4 l3 = some (.lst ((ded u.flat).map V.str)) ∧ H4 nm = some (.lst ((((ded u.flat).take j).foldl addS (ded (Rw.flats (ts.take i)))).map V.str))) ⟨_, rfl, s2.trans s3, s3 _ _ hl2, hA2.mono (fun _ _ z => z.same s3), hl3, s3 _ _ hnm⟩ (fun j σ H4 _ ⟨_, _, _, _, _, z, _⟩ => SqL.of z) ?_ ?_⟩
          · rintro j y σ H4 hy ⟨y3, rfl, s4, hl4, hA4, hl34, hnm4⟩
            obtain ⟨q, hq, rfl⟩ : ∃ q, (ded u.flat)[j]? = some q ∧ y = V.str q := by
              rw [List.getElem?_map] at hy
              cases e : (ded u.flat)[j]? with
              | none => rw [e] at hy; cases hy
              | some q => rw [e] at hy; exact ⟨q, rfl, (Option.some.inj hy).symm⟩
            have tk : (ded u.flat).take (j + 1) = (ded u.flat).take j ++ [q] := by rw [List.take_add_one, hq]; rfl
            refine ⟨.str q, rfl, .ref nm, rfl, nm, _, rfl, .inl (SqL.of hnm4), rfl, flat_strs _, _, rfl, ?_⟩
            have fin : ((ded u.flat).take (j + 1)).foldl addS (ded (Rw.flats (ts.take i))) = addS (((ded u.flat).take j).foldl addS (ded (Rw.flats (ts.take i)))) q := by rw [tk, List.foldl_append]; rfl
            show (if (!inV (.str q) _) = true then _ else _)
            rw [in_strs]
            by_cases hm : q ∈ ((ded u.flat).take j).foldl addS (ded (Rw.flats (ts.take i)))
            · refine ifF (by rw [decide_eq_true hm]; rfl) ?_
              refine ⟨_, rfl, s4, hl4, hA4, hl34, ?_⟩
              rw [fin, add_old hm]
              exact hnm4
            · refine ifT (by rw [decide_eq_false hm]; rfl) ?_
              refine ⟨.ref nm, rfl, .inl ⟨rfl, _, SqL.of hnm4⟩, .str q, rfl, nm, _, _, rfl, rfl, hnm4, ?_, ?_⟩
              · have b1 := ded_len ((ded u.flat).take j) (ded (Rw.flats (ts.take i)))
                have b2 := ded_len u.flat []
                have b3 := ded_len (Rw.flats (ts.take i)) []
                have b4 : ((ded u.flat).take j).length ≤ (ded u.flat).length := by rw [List.length_take]; exact Nat.min_le_right _ _
                have b2' : (ded u.flat).length ≤ 0 + u.flat.length := b2
                have b3' : (ded (Rw.flats (ts.take i))).length ≤ 0 + (Rw.flats (ts.take i)).length := b3
                rw [List.length_map]
                exact szl (by omega)
              · refine ⟨_, rfl, fun b o e => ?_, ?_, hA4.mono (fun _ _ z => z.put hnm4), ?_, ?_⟩
                · rw [upd_ne (ne_of_none e nnm)]; exact s4 _ _ e
                · rw [upd_ne lnm]; exact hl4
                · rw [upd_ne n3]; exact hl34
                · rw [upd_same, fin, add_new hm, List.map_append]; rfl
          · rintro σ H4 ⟨y3, rfl, s4, hl4, hA4, hl34, hnm4⟩
            refine ⟨_, _, rfl, s4, hl4, hA4, ?_⟩
            rw [List.length_map, List.take_length, ded_into, ← ded_app, ← flats_takeR hu] at hnm4
            exact hnm4
      · rintro σ H2 ⟨y2, y3, rfl, s2, hl2, hA2, hnm⟩
        rw [hA1, List.take_length] at hnm
        refine ⟨.ref nm, rfl, w nm H2 s2 nnm ?_⟩
        rw [flat_node hev]
        exact hnm
theorem ok_p_event_names (T : Txt K mg a) : FnOk P w K mg base CX0 13 a.f_p_event_names a.fd_p_event_names ["term"] (sp_p_event_names K) := ok_p_event_names_n T 12
end
section
variable {P : Program} {w : World} {K : PySem.W.Frag} {mg : Str → Option Value} {base : Heap} {a : Ad}
def spDl (K : PySem.W.Frag) : Nat → Sp
  | 0 => fun _ _ _ _ => False
  | n + 1 => fun vs H Q _ => ∃ (v : V) (u : Tm) (ss : List Str), vs = [v] ∧ RwAt K H (n + 1) v u.raw ∧ WT ss (n + 1) u ∧ u.size ≤ 40 ∧ ∀ l xs H', Same H H' → H l = none → H' l = some (.lst xs) → AllG (fun v f => Fr K H' v f.1 f.2) xs (dls (n + 1) u) → Q (.ref l) H'
def sp_p_delays_in (K : PySem.W.Frag) : Sp := spDl K 12

theorem ok_p_delays_in_n (T : Txt K mg a) : ∀ n, FnOk P w K mg base CX0 (n + 3) a.f_p_delays_in a.fd_p_delays_in ["term"] (spDl K n)
  | 0 => fn_false
  | n + 1 => by
    have G_p_subterms := ok_p_subterms (P := P) (w := w) (base := base) T
    have G_p_delays_in := ok_p_delays_in_n T n
    refine T.F_p_delays_in.ok sc_p_delays_in (fun vs H Q E h => ?_) (fun cdv A outer s H vs Q E hr h => ?_)
    · obtain ⟨v, u, ss, rfl, _⟩ := h
      rfl
    obtain ⟨v, u, ss, rfl, ht, hw, s40, w⟩ := h
    refine ⟨_, (pss_cons (ps_setLc2 (i := 1) (own := [("part", 2), ("amount", 3)]) (vs1 := [3])  rfl sc_p_delays_in.nd rfl rfl (sw_true rfl rfl rfl (by decide +kernel)) (pi_list (pe_call G_p_subterms (hr.mono (by first | decide | omega)) (by rfl) T.g_p_subterms T.F_p_subterms.kp T.b_p_subterms .nil pass0 (pa_cons (pv 0) pa_nil))) (blkOk_by (own := [("part", 2), ("amount", 3)]) (N := ["term", "amounts", "part", "amount"]) (sc := defScope s_p_delays_in) (by decide +kernel)) (by decide) (fun _ _ _ _ _ => (pg_name (i := 2) sc_p_delays_in.nd rfl (Or.inl rfl))) (fun _ _ _ _ _ => pts_nil) (fun _ _ _ _ _ => (piLK (K := K) rfl (pe_call G_p_delays_in (hr.mono (by first | decide | omega)) (by rfl) T.g_p_delays_in T.F_p_delays_in.kp T.b_p_delays_in .nil pass0 (pa_cons (pv 2) pa_nil)))) (fun _ _ _ _ _ => (pg_name (i := 3) sc_p_delays_in.nd rfl (Or.inl rfl))) (fun _ _ _ _ _ => pts_nil) (fun _ _ _ _ _ => (pv 3)))
      (pss_one (ps_ret (pe_ifExp (pt_cmpR op_eq (pe_ix ix_tup (pv 0) pe_int (fun _ _ => rfl)) pe_str (nomark _)) (pe_lst (pa_cons (pe_ix ix_tup (pv 0) pe_int (fun _ _ => rfl)) (StX.pa_star (pv 1) pa_nil))) (pv 1))))), ?_⟩
    obtain ⟨es, ez, ew, ed⟩ := tm_subsD u
    generalize hus : u.subs = us at es ez ew ed
    have ht0 := ht
    rcases er : u.raw with ⟨k, ts⟩
    rw [er] at ht es
    have es : ts = us.map Tm.raw := es
    obtain ⟨l60, zs, hN, hZ⟩ := ht
    obtain ⟨p, ys, rfl, hp, hR⟩ := hN.nm
    refine ⟨.ref p, rfl, .ref p, u.raw, n, rfl, ht0, fun l H1 xs s1 nl hl hA => ?_⟩
    rw [er] at hA
    have hA : All3 (RwAt K H1 n) xs ts := hA
    rw [es] at hA
    have xl : xs.length = us.length := by rw [hA.1, List.length_map]
    refine ⟨l, rfl, ⟨_, SqL.of hl⟩, fun D nD => ?_⟩
    have fz : ∀ (m : Nat) (x : Tm), (dls m x).length ≤ x.size := dls_len
    have ul := tsz_len us
    have sN : ∀ (i : Nat) (u : Tm), us[i]? = some u → u.size ≤ 40 := fun i u hu => by have := size_in hu; omega
    refine lc2_flat (K := K) (l := l) (xs := xs) (j := 3) (fun H v (f : QQ) => Fr K H v f.1 f.2) (fun i => optF (dls n) us[i]?) 40 (fun σ => ∃ x, σ = [some (.ref p), none, some x, none]) hl nD (by omega) (fun i hi => ?_) (fun s h => h.same s) (fun {H v t ys ys'} hD h => ?_) ?_ ?_ ?_ ?_
    · have hu : us[i]? = some (us[i]'(by omega)) := List.getElem?_eq_getElem _
      rw [hu]
      exact Nat.le_trans (fz n _) (sN i _ hu)
    · obtain ⟨q, e, z⟩ := h
      exact ⟨q, e, sqPut z hD⟩
    · intro i x H2 R Z hx s2 hR2
      have il : i < us.length := by rw [← xl]; exact (List.getElem?_eq_some_iff.mp hx).1
      have hu : us[i]? = some us[i] := List.getElem?_eq_getElem il
      generalize us[i] = t at hu
      have tz := hA.2 i x t.raw hx (by rw [List.getElem?_map, hu]; rfl)
      have tm := List.mem_of_getElem? hu
      refine ⟨rfl, tYes_if ⟨x, rfl, ?_⟩⟩
      cases n with
      | zero => have := ew ss 0 hw t tm; cases this
      | succ n =>
        refine ⟨x, t, ss, rfl, tz.same s2, ew ss _ hw t tm, sN i t hu, fun l3 zs H3 s3 nl3 hl3 hZ3 => ?_⟩
        exact ⟨l3, rfl, ⟨_, SqL.of hl3⟩, hR2 _ l3 zs H3 ⟨x, rfl⟩ nl3 s3 hl3 (by rw [hu]; exact hZ3)⟩
    · rintro σ2 y ⟨x, rfl⟩; rfl
    · rintro σ2 y H5 R ⟨x, rfl⟩ h; exact ⟨y, rfl, h⟩
    · intro H2 ys2 s2 hD hY
      rw [xl, range_map] at hY
      have s12 := s1.trans s2
      have np : H D = none := s1.free nD
      refine ⟨.ref p, rfl, p, _, 0, _, rfl, rfl, Same.T s12 hp, atI_nat (j := 0) rfl, rfl, _, rfl, ?_⟩
      rcases ed with ⟨f, eu⟩ | ⟨ne, ed⟩
      · have ek := er
        rw [eu, Tm.raw] at ek
        have ek : Rk.dl (some f) = k := (Rw.mk.inj ek).1
        subst ek
        obtain ⟨q, x, fv, e1, e2, hq, ff⟩ := hN
        cases e2
        obtain ⟨pf, rfl, hpf⟩ := ff.fr
        refine ifT (decide_eq_true rfl) ?_
        refine ⟨.ref p, rfl, p, _, 2, _, rfl, rfl, Same.T s12 hq, atI_nat (j := 2) rfl, .ref D, rfl, D, ys2, rfl, .inr (SqL.of hD), ?_⟩
        have yl : ys2.length ≤ 40 := by
          have h1 := flat_len (f := dls n) (us := us) fun x _ => fz n x
          have h2 := hY.1
          omega
        refine ⟨sz (by rw [List.append_nil, List.length_cons]; omega), fun q nq => ?_⟩
        rw [List.append_nil]
        have s3 := Same.new (o := .lst (.ref pf :: ys2)) nq
        refine w q _ _ (s12.trans s3) (s12.free nq) upd_same ?_
        rw [eu, dls]
        exact AllG.cons ⟨pf, rfl, Same.T (s12.trans s3) hpf⟩ (hY.mono fun _ _ z => z.same s3)
      · rw [er] at ne
        refine ifF (decide_eq_false fun z => ne (V.str.inj z)) ?_
        exact ⟨.ref D, rfl, w D ys2 H2 s12 np hD (by rw [ed]; exact hY)⟩
theorem ok_p_delays_in (T : Txt K mg a) : FnOk P w K mg base CX0 15 a.f_p_delays_in a.fd_p_delays_in ["term"] (sp_p_delays_in K) := ok_p_delays_in_n T 12
end
section
variable {P : Program} {w : World} {K : PySem.W.Frag} {mg : Str → Option Value} {base : Heap} {a : Ad}
def sp_p_check_names (K : PySem.W.Frag) : Sp := fun vs H Q _ => ∃ (v : V) (l : Addr) (t : Rw) (ns : List Str), vs = [v, .ref l] ∧ RwAt K H 12 v t ∧ EvOk 12 t ∧ t.flat.length ≤ 1000 ∧ H l = some (.lst (ns.map V.str)) ∧ unk ns t = [] ∧ ∀ H', Same H H' → Q .non H'
def spx_p_check_names (K : PySem.W.Frag) (a : Ad) : Sp := fun vs H Q E => ∃ (v : V) (l : Addr) (t : Rw) (ns : List Str), vs = [v, .ref l] ∧ RwAt K H 12 v t ∧ EvOk 12 t ∧ t.flat.length ≤ 1000 ∧ H l = some (.lst (ns.map V.str)) ∧
  (unk ns t = [] → ∀ H', Same H H' → Q .non H') ∧
  (∀ u us, unk ns t = u :: us → okNm u ∧ Rz1 a.C_UnknownEvent "UnknownEvent" "name" (.str u) E H)

theorem okx_p_check_names (T : Txt K mg a) : FnOk P w K mg base (L2N.CX P w) 17 a.f_p_check_names a.fd_p_check_names ["term", "known"] (spx_p_check_names K a) := by
  have G_p_event_names := ok_p_event_names (P := P) (w := w) (base := base) T
  have G_i_UnknownEvent := ok_i_UnknownEvent (P := P) (w := w) (base := base) T
  refine LmN.okN T.F_p_check_names sc_p_check_names (fun vs H Q E h => ?_) (fun cdv A outer s H vs Q E hr h => ?_)
  · obtain ⟨v, d, t, ns, rfl, _⟩ := h
    rfl
  · obtain ⟨v, d, t, ns, rfl, ht, ar, fl, hd, w, wx⟩ := h
    refine ⟨_, (pss_one (ps_for (passes_of rfl) rfl (pi_list (pe_call G_p_event_names (hr.mono (by first | decide | omega)) (by rfl) T.g_p_event_names T.F_p_event_names.kp T.b_p_event_names .nil pass0 (pa_cons (pv 0) pa_nil))) (pg_name (i := 2) sc_p_check_names.nd rfl (by first | exact Or.inl rfl | exact Or.inr rfl)) (pss_one (ps_if (pt_cmpR op_notIn_seq (pv 2) (pv 1) (by rfl)) (pss_one (L2N.ps_raise rfl (L2N.takes_of rfl rfl rfl rfl) (ExB.pmk1 ⟨_, _, _, _, T.oC_UnknownEvent⟩ T.iC_UnknownEvent T.tI_UnknownEvent G_i_UnknownEvent (hr.mono (by first | decide | omega)) T.b_i_UnknownEvent .nil pass0 (by rfl) T.gC_UnknownEvent (pa_cons (pv 2) pa_nil)))) pss_nil)))), ?_⟩
    refine ⟨v, rfl, v, t, rfl, ht, ar, fl, fun l H1 s1 nl hl => ?_⟩
    have hd1 := s1 _ _ hd
    refine ⟨l, rfl, ⟨_, SqL.of hl⟩, for_list (K := K) (a := l) (xs := (ded t.flat).map V.str) (fun i σ H' => ∃ y, σ = [some v, some (.ref d), y] ∧ H' = H1 ∧ unk ns t = ((ded t.flat).drop i).filter fun s => !decide (s ∈ ns)) ⟨none, rfl, rfl, rfl⟩ (fun i σ H' _ ⟨_, _, e, _⟩ => by rw [e]; exact SqL.of hl) ?_ ?_⟩
    · rintro i x σ H2 hx ⟨y, rfl, rfl, hm⟩
      obtain ⟨s, hs, rfl⟩ := strs_at hx
      rw [dropAt hs, List.filter_cons] at hm
      refine ⟨.str s, rfl, .ref d, rfl, d, _, rfl, .inl (SqL.of hd1), rfl, flat_strs _, _, rfl, ?_⟩
      show (if (!inV (.str s) _) = true then _ else _)
      rw [in_strs]
      by_cases h : s ∈ ns
      · rw [decide_eq_true h] at hm ⊢
        exact ifF rfl ⟨_, rfl, rfl, hm⟩
      · rw [decide_eq_false h] at hm ⊢
        obtain ⟨hn, we⟩ := wx s _ hm
        exact ifT rfl (raise_UnknownEvent T hn (fun _ h => ⟨_, rfl, h⟩) s1 we)
    · rintro σ H2 ⟨y, rfl, rfl, hm⟩
      rw [List.length_map, List.drop_length] at hm
      exact w hm H2 s1
theorem ok_p_check_names (T : Txt K mg a) : FnOk P w K mg base CX0 17 a.f_p_check_names a.fd_p_check_names ["term", "known"] (sp_p_check_names K) := LmN.fn0_of (okx_p_check_names T) (fun vs H Q E h => by
  obtain ⟨v, d, t, ns, rfl, ht, ar, fl, e, m, w⟩ := h
  exact ⟨v, d, t, ns, rfl, ht, ar, fl, e, fun _ => w, fun u us z => by rw [m] at z; cases z⟩)
end
section
variable {P : Program} {w : World} {K : PySem.W.Frag} {mg : Str → Option Value} {base : Heap} {a : Ad}
def spWs (K : PySem.W.Frag) : Nat → Sp
  | 0 => fun _ _ _ _ => False
  | n + 1 => fun vs H Q _ => ∃ (v : V) (u : Tm) (ss : List Str), vs = [v] ∧ RwAt K H (n + 1) v u.raw ∧ WT ss (n + 1) u ∧ u.size ≤ 40 ∧ ∀ m H', Same H H' → 0 < m → Wd (n + 1) u m → m.natAbs < 2 ^ (12 * u.size - 11) → (∀ c, 0 < c → Wd (n + 1) u c → m ∣ c) → Q (.int m) H'
def sp_p_weight_scale (K : PySem.W.Frag) : Sp := spWs K 12

theorem ok_p_weight_scale_n (T : Txt K mg a) : ∀ n, FnOk P w K mg base CX0 (n + 3) a.f_p_weight_scale a.fd_p_weight_scale ["term"] (spWs K n)
  | 0 => fn_false
  | n + 1 => by
    have G_p_subterms := ok_p_subterms (P := P) (w := w) (base := base) T
    have G_p_least_multiple := ok_p_least_multiple (P := P) (w := w) (base := base) T
    have G_p_weight_scale := ok_p_weight_scale_n T n
    refine T.F_p_weight_scale.ok sc_p_weight_scale (fun vs H Q E h => ?_) (fun cdv A outer s H vs Q E hr h => ?_)
    · obtain ⟨v, u, ss, rfl, _⟩ := h
      rfl
    obtain ⟨v, u, ss, rfl, ht, hw, s40, w⟩ := h
    refine ⟨_, (pss_cons (ps_set (i := 1) sc_p_weight_scale.nd rfl (by first | exact Or.inl rfl | exact Or.inr rfl) pe_int)
      (pss_cons (ps_if (pt_cmpR op_eq (pe_ix ix_tup (pv 0) pe_int (fun _ _ => rfl)) pe_str (nomark _)) (pss_cons (ps_for PassesOwn.never rfl (pi_tup (pe_slice sl_tup (pv 0) (po_some pe_int) po_none)) (pg_tup rfl (pgs_cons (pg_name (i := 2) sc_p_weight_scale.nd rfl (by first | exact Or.inl rfl | exact Or.inr rfl)) (pgs_cons (pg_name (i := 3) sc_p_weight_scale.nd rfl (by first | exact Or.inl rfl | exact Or.inr rfl)) pgs_nil))) (pss_one (ps_set (i := 1) sc_p_weight_scale.nd rfl (by first | exact Or.inl rfl | exact Or.inr rfl) (pe_call G_p_least_multiple (hr.mono (by first | decide | omega)) (by rfl) T.g_p_least_multiple T.F_p_least_multiple.kp T.b_p_least_multiple .nil pass0 (pa_cons (pv 1) (pa_cons (pe_op op_mulW (pe_ix ix_tup (pv 2) pe_int (fun _ _ => rfl)) (pe_call G_p_weight_scale (hr.mono (by first | decide | omega)) (by rfl) T.g_p_weight_scale T.F_p_weight_scale.kp T.b_p_weight_scale .nil pass0 (pa_cons (pv 3) pa_nil))) pa_nil))))))
      (pss_one (ps_ret (pv 1)))) pss_nil)
      (pss_cons (ps_for PassesOwn.never rfl (pi_list (pe_call G_p_subterms (hr.mono (by first | decide | omega)) (by rfl) T.g_p_subterms T.F_p_subterms.kp T.b_p_subterms .nil pass0 (pa_cons (pv 0) pa_nil))) (pg_name (i := 3) sc_p_weight_scale.nd rfl (by first | exact Or.inl rfl | exact Or.inr rfl)) (pss_one (ps_set (i := 1) sc_p_weight_scale.nd rfl (by first | exact Or.inl rfl | exact Or.inr rfl) (pe_call G_p_least_multiple (hr.mono (by first | decide | omega)) (by rfl) T.g_p_least_multiple T.F_p_least_multiple.kp T.b_p_least_multiple .nil pass0 (pa_cons (pv 1) (pa_cons (pe_call G_p_weight_scale (hr.mono (by first | decide | omega)) (by rfl) T.g_p_weight_scale T.F_p_weight_scale.kp T.b_p_weight_scale .nil pass0 (pa_cons (pv 3) pa_nil)) pa_nil))))))
      (pss_one (ps_ret (pv 1)))))), ?_⟩
    have grow : ∀ {m x m' : Int} {A B C : Nat}, 0 < m' → m' ≤ m * x → m.natAbs < 2 ^ A → x.natAbs < 2 ^ B → A + B ≤ C → m'.natAbs < 2 ^ C := fun {m x m' A B C} h0 h1 h2 h3 h4 => by
      have z := wide_lt h2 h3
      have z2 := Nat.pow_le_pow_right (n := 2) (by decide) h4
      generalize m * x = y at *
      omega
    by_cases hx : ∃ ws us, u = .nd (.mix ws) us
    · obtain ⟨ws, us, rfl⟩ := hx
      rw [Tm.raw, raws_map] at ht
      obtain ⟨l60, zs, ⟨p, ys, rfl, hp, l1, l2, hmx⟩, hZ⟩ := ht
      have zl : zs.length = us.length := by rw [hZ.1, List.length_map]
      rw [tm_size] at w s40
      have hk := hw.1
      have n0 : ws ≠ [] := fun e => by have h1 := hk.2.1; have h2 := hk.1.1; rw [e] at h1; rw [← h1] at h2; exact absurd h2 (by decide)
      refine ⟨.ref p, rfl, p, _, 0, _, rfl, rfl, hp, atI_nat (j := 0) rfl, rfl, _, rfl, ifT (decide_eq_true rfl) ?_⟩
      refine ⟨.ref p, rfl, 1, rfl, p, _, rfl, hp, not_whole _ _, fun c nc => ?_⟩
      rw [cut_one]
      have sc := Same.new (o := .tup ys) nc
      refine ⟨c, rfl, ⟨_, SqT.of upd_same⟩, for_tup (K := K) (a := c) (xs := ys) (fun i σ H1 => ∃ m y2 y3, σ = [some (.ref p), some (.int m), y2, y3] ∧ Same H H1 ∧ H1 c = some (.tup ys) ∧ 0 < m ∧ m.natAbs < 2 ^ (1 + 12 * Tm.sizes (us.take i)) ∧ (∀ (j : Nat) w u, j < i → ws[j]? = some w → us[j]? = some u → ∃ c, 0 < c ∧ m = w.2 * c ∧ Wd n u c) ∧ ∀ c, 0 < c → Wd (n + 1) (.nd (.mix ws) us) c → m ∣ c) ⟨1, none, none, rfl, sc, upd_same, by decide, (by rw [List.take_zero, Tm.sizes]; decide), (fun j _ _ h => absurd h (by omega)), fun c _ _ => Int.one_dvd c⟩ (fun i σ H1 _ z => by obtain ⟨m, y2, y3, _, _, hc, _⟩ := z; exact SqT.of hc) ?_ ?_⟩
      · rintro i y σ H1 hy ⟨m, y2, y3, rfl, s1, hc, m0, mB, hm, hlst⟩
        have il : i < ys.length := (List.getElem?_eq_some_iff.mp hy).1
        have hz : zs[i]? = some (zs[i]'(by omega)) := List.getElem?_eq_getElem _
        have hf : ws[i]? = some (ws[i]'(by omega)) := List.getElem?_eq_getElem _
        have hu : us[i]? = some (us[i]'(by omega)) := List.getElem?_eq_getElem _
        generalize us[i]'(by omega) = t at hu
        generalize ws[i]'(by omega) = f at hf
        obtain ⟨q, wv, rfl, hq, hwv⟩ := hmx i y _ _ hy hz hf
        obtain ⟨pw, rfl, hpw⟩ := hwv.fr
        have tz := hZ.2 i _ t.raw hz (by rw [List.getElem?_map, hu]; rfl)
        have tsz := size_in hu
        have tm := List.mem_of_getElem? hu
        obtain ⟨lo, p0, n5, d5⟩ := hk.2.2.low n0 f (List.mem_of_getElem? hf)
        have tp := tm_pos t
        refine ⟨q, _, rfl, Same.T s1 hq, rfl, _, _, rfl, _, _, rfl, rfl, ?_⟩
        refine ⟨.int m, rfl, .ref pw, rfl, pw, _, 1, _, rfl, rfl, Same.T s1 hpw, atI_nat (j := 1) rfl, _, rfl, ?_⟩
        cases n with
        | zero => have := hw.2 t tm; cases this
        | succ n =>
          refine ⟨_, t, ss, rfl, tz.same s1, hw.2 t tm, by omega, fun x H2 s2 x0 hx xB xl => ?_⟩
          have fB : f.2.natAbs < 2 ^ 5 := by have := lo.1; show _ < 32; omega
          have xw := wide_lt fB xB
          refine ⟨f.2, x, rfl, rfl, wide_mul fB xB (by decide) (by omega) (by omega), m, f.2 * x, _, _, rfl, m0, Int.mul_pos lo.1 x0, mB, xw, by omega, by omega, by omega, by omega, fun m' m0' d1 d2 le lst => ?_⟩
          refine ⟨m', _, _, rfl, s1.trans s2, s2 _ _ hc, m0', grow m0' le mB xw (by rw [tsz_take hu]; omega), fun j w' u' hj a b => ?_, fun c c0 hW => lst c (hlst c c0 hW) ?_⟩
          by_cases e : j < i
          · obtain ⟨c', c0, e1, e2⟩ := hm j w' u' e a b
            obtain ⟨k, rfl⟩ := d1
            have k0 := Int.pos_of_mul_pos_right m0' m0
            exact ⟨c' * k, Int.mul_pos c0 k0, by rw [e1, Int.mul_assoc], e2.mul k0⟩
          · have ej : j = i := by omega
            subst ej
            rw [hf] at a
            rw [hu] at b
            cases a
            cases b
            obtain ⟨k, rfl⟩ := d2
            have k0 := Int.pos_of_mul_pos_right m0' (Int.mul_pos lo.1 x0)
            exact ⟨x * k, Int.mul_pos x0 k0, by rw [Int.mul_assoc], hx.mul k0⟩
          · obtain ⟨c', c0', e1, e2⟩ := hW i f t hf hu
            rw [e1]
            exact Int.mul_dvd_mul_left _ (xl c' c0' e2)
      · rintro σ H1 ⟨m, y2, y3, rfl, s1, hc, m0, mB, hm, hlst⟩
        refine ⟨.int m, rfl, w m H1 s1 m0 (fun i w u a b => hm i w u (by have := (List.getElem?_eq_some_iff.mp a).1; omega) a b) ?_ hlst⟩
        rw [show ys.length = us.length by omega, List.take_length] at mB
        rw [show 12 * (1 + Tm.sizes us) - 11 = 1 + 12 * Tm.sizes us by omega]
        exact mB
    obtain ⟨us, es, ez, ew, ed, ec⟩ := tm_subs u
    have nx := notmix hx
    have ht0 := ht
    rcases er : u.raw with ⟨k, ts⟩
    rw [er] at ht nx es
    have es : ts = us.map Tm.raw := es
    obtain ⟨l60, zs, hN, hZ⟩ := ht
    obtain ⟨p, ys, rfl, hp, hR⟩ := hN.nm
    refine ⟨.ref p, rfl, p, _, 0, _, rfl, rfl, hp, atI_nat (j := 0) rfl, rfl, _, rfl, ifF (str_no (decide_eq_false nx)) ?_⟩
    refine ⟨.ref p, rfl, .ref p, u.raw, n, rfl, ht0, fun l H1 xs s1 nl hl hA => ?_⟩
    rw [er] at hA
    have hA : All3 (RwAt K H1 n) xs ts := hA
    rw [es] at hA
    have xl : xs.length = us.length := by rw [hA.1, List.length_map]
    refine ⟨l, rfl, ⟨_, SqL.of hl⟩, for_list (K := K) (a := l) (xs := xs) (fun i σ H2 => ∃ m y2 y3, σ = [some (.ref p), some (.int m), y2, y3] ∧ Same H1 H2 ∧ 0 < m ∧ m.natAbs < 2 ^ (1 + 12 * Tm.sizes (us.take i)) ∧ (∀ x ∈ us.take i, Wd n x m) ∧ ∀ c, 0 < c → (∀ x ∈ us, Wd n x c) → m ∣ c) ⟨1, none, none, rfl, Same.refl H1, by decide, (by rw [List.take_zero, Tm.sizes]; decide), (fun x hx => by cases hx), fun c _ _ => Int.one_dvd c⟩ (fun i σ H2 _ z => by obtain ⟨m, y2, y3, _, s2, _⟩ := z; exact SqL.of (s2 _ _ hl)) ?_ ?_⟩
    · rintro i x σ H2 hx' ⟨m, y2, y3, rfl, s2, m0, mB, hm, hlst⟩
      have il : i < us.length := by rw [← xl]; exact (List.getElem?_eq_some_iff.mp hx').1
      have hu : us[i]? = some us[i] := List.getElem?_eq_getElem il
      generalize us[i] = t at hu
      have tz := hA.2 i x t.raw hx' (by rw [List.getElem?_map, hu]; rfl)
      have tsz := size_in hu
      have tm := List.mem_of_getElem? hu
      have tp := tm_pos t
      refine ⟨.int m, rfl, x, rfl, ?_⟩
      cases n with
      | zero => have := ew ss 0 hw t tm; cases this
      | succ n =>
        refine ⟨x, t, ss, rfl, tz.same s2, ew ss _ hw t tm, by omega, fun y H3 s3 y0 hy yB yl => ?_⟩
        refine ⟨m, y, _, _, rfl, m0, y0, mB, yB, by omega, by omega, by omega, by omega, fun m' m0' d1 d2 le lst => ?_⟩
        refine ⟨m', _, _, rfl, s2.trans s3, m0', grow m0' le mB yB (by rw [tsz_take hu]; omega), fun z hz => ?_, fun c c0 hW => lst c (hlst c c0 hW) (yl c c0 (hW t tm))⟩
        rw [List.take_add_one, hu] at hz
        rcases List.mem_append.mp hz with h | h
        · exact (hm z h).dvd m0 m0' d1
        · rw [List.mem_singleton.mp (show z ∈ [t] from h)]; exact hy.dvd y0 m0' d2
    · rintro σ H2 ⟨m, y2, y3, rfl, s2, m0, mB, hm, hlst⟩
      rw [xl, List.take_length] at mB hm
      refine ⟨.int m, rfl, w m H2 (s1.trans s2) m0 (ed hx n m hm) ?_ (fun c c0 hW => hlst c c0 (ec hx n c hW))⟩
      rw [ez, show 12 * (1 + Tm.sizes us) - 11 = 1 + 12 * Tm.sizes us by omega]
      exact mB
theorem ok_p_weight_scale (T : Txt K mg a) : FnOk P w K mg base CX0 15 a.f_p_weight_scale a.fd_p_weight_scale ["term"] (sp_p_weight_scale K) := ok_p_weight_scale_n T 12
end
section
variable {P : Program} {w : World} {K : PySem.W.Frag} {mg : Str → Option Value} {base : Heap} {a : Ad}
def spSysTerm (K : PySem.W.Frag) (N : Option Rw → Nat → Str → VK → XK → Hp → Prop) : Sp := fun vs H Q E => ∃ (x C : Addr) (n : Nat) (rs : List Row) (s : Str), vs = [.ref x, .str s] ∧ Cls K C ∧ NoAttr K C "pairs" ∧ SysAt K H C x n rs ∧ okNm s ∧ N (rowT s rs) n s Q E H
def sp_o_EventSystem_term (K : PySem.W.Frag) : Sp := spSysTerm K fun o n _ Q _ H => ∃ t, o = some t ∧ ∀ v, RwAt K H n v t → Q v H
def spx_o_EventSystem_term (K : PySem.W.Frag) (a : Ad) : Sp := spSysTerm K fun o n s Q E H => (∀ t, o = some t → ∀ v, RwAt K H n v t → Q v H) ∧ (o = none → Rz1 a.C_UnknownEvent "UnknownEvent" "name" (.str s) E H)

theorem okx_o_EventSystem_term (T : Txt K mg a) : FnOk P w K mg base (L2N.CX P w) 4 a.f_o_EventSystem_term a.fd_o_EventSystem_term ["self", "name"] (spx_o_EventSystem_term K a) := by
  have G_i_UnknownEvent := ok_i_UnknownEvent (P := P) (w := w) (base := base) T
  refine LmN.okN T.F_o_EventSystem_term sc_o_EventSystem_term (fun vs H Q E h => ?_) (fun cdv A outer s H vs Q E hr h => ?_)
  · obtain ⟨x, C, n, rs, s, rfl, _⟩ := h
    rfl
  · obtain ⟨x, C, n, rs, s, rfl, hC, hN, ⟨dx, pl, ys, hx, hpl, hA⟩, os, w, we⟩ := h
    refine ⟨_, (pss_cons (ps_for (passes_of rfl) rfl (pi_list (pe_fld (pv 0) rfl)) (pg_tup rfl (pgs_cons (pg_name (i := 2) sc_o_EventSystem_term.nd rfl (by first | exact Or.inl rfl | exact Or.inr rfl)) (pgs_cons (pg_name (i := 3) sc_o_EventSystem_term.nd rfl (by first | exact Or.inl rfl | exact Or.inr rfl)) pgs_nil))) (pss_one (ps_if (pt_cmpR op_eq (pv 2) (pv 1) (nomark _)) (pss_one (ps_ret (pv 3))) pss_nil)))
          (pss_one (L2N.ps_raise rfl (L2N.takes_of rfl rfl rfl rfl) (ExB.pmk1 ⟨_, _, _, _, T.oC_UnknownEvent⟩ T.iC_UnknownEvent T.tI_UnknownEvent G_i_UnknownEvent (hr.mono (by first | decide | omega)) T.b_i_UnknownEvent .nil pass0 (by rfl) T.gC_UnknownEvent (pa_cons (pv 1) pa_nil))))), ?_⟩
    refine ⟨.ref x, rfl, x, C, dx, _, .ref pl, rfl, hx, hC, hN, rfl, pl, rfl, ⟨_, SqL.of hpl⟩, for_list (K := K) (a := pl) (xs := ys) (fun i σ H' => ∃ y1 y2, σ = [some (.ref x), some (.str s), y1, y2] ∧ H' = H ∧ rowT s rs = rowT s (rs.drop i)) ⟨none, none, rfl, rfl, rfl⟩ (fun i σ H' _ ⟨_, _, _, e, _⟩ => by rw [e]; exact SqL.of hpl) ?_ ?_⟩
    · rintro i y σ H2 hy ⟨y1, y2, rfl, rfl, hm⟩
      obtain ⟨r, hr', p, x', rfl, hp, hx'⟩ := hA.at hy
      rw [dropAt hr', rowT] at hm
      refine ⟨p, _, rfl, hp, rfl, _, _, rfl, _, _, rfl, rfl, .str r.1, rfl, .str s, rfl, rfl, _, rfl, ?_⟩
      by_cases e : r.1 = s
      · rw [if_pos e] at hm
        exact ifT (decide_eq_true (by rw [e])) ⟨x', rfl, w r.2 hm x' hx'⟩
      · rw [if_neg e] at hm
        exact ifF (decide_eq_false fun z => e (V.str.inj z)) ⟨_, _, rfl, rfl, hm⟩
    · rintro σ H2 ⟨y1, y2, rfl, rfl, hm⟩
      rw [hA.1, List.drop_length, rowT] at hm
      dsimp only
      exact raise_UnknownEvent T os (fun _ h => ⟨_, rfl, h⟩) (Same.refl H2) (we hm)
theorem ok_o_EventSystem_term (T : Txt K mg a) : FnOk P w K mg base CX0 4 a.f_o_EventSystem_term a.fd_o_EventSystem_term ["self", "name"] (sp_o_EventSystem_term K) := LmN.fn0_of (okx_o_EventSystem_term T) (fun vs H Q E h => by
  obtain ⟨x, C, n, rs, s, rfl, h1, h2, h3, h4, t, e, w⟩ := h
  exact ⟨x, C, n, rs, s, rfl, h1, h2, h3, h4, (fun u z => by rw [e] at z; cases z; exact w), (fun z => by rw [e] at z; cases z)⟩)
end
section
variable {P : Program} {w : World} {K : PySem.W.Frag} {mg : Str → Option Value} {base : Heap} {a : Ad}
def sp_p_rate_of (K : PySem.W.Frag) : Sp := fun vs _ _ _ => vs.length = 2 ∧ False
def spx_p_rate_of (K : PySem.W.Frag) (a : Ad) : Sp := fun vs H Q E => ∃ (x : Addr) (rs : List Row) (s : Str), vs = [.ref x, .str s] ∧ SysAt K H a.C_EventSystem x 12 rs ∧ okNm s ∧ rowT s rs = none ∧ Rz1 a.C_UnknownEvent "UnknownEvent" "name" (.str s) E H

theorem okx_p_rate_of (T : Txt K mg a) : FnOk P w K mg base (L2N.CX P w) 5 a.f_p_rate_of a.fd_p_rate_of ["system", "name"] (spx_p_rate_of K a) := by
  have G_o_EventSystem_term := ok_o_EventSystem_term (P := P) (w := w) (base := base) T
  have Gx_o_EventSystem_term := okx_o_EventSystem_term (P := P) (w := w) (base := base) T
  refine LmN.okN T.F_p_rate_of sc_p_rate_of (fun vs H Q E h => ?_) (fun cdv A outer s H vs Q E hr h => ?_)
  · obtain ⟨x, rs, s, rfl, _⟩ := h
    rfl
  · obtain ⟨x, rs, s, rfl, hS, os, hn, w⟩ := h
    refine ⟨_, (pss_cons (ps_expr (pe_meth (pv 0) T.cl_EventSystem T.me_o_EventSystem_term Gx_o_EventSystem_term (hr.mono (by first | decide | omega)) T.b_o_EventSystem_term .nil (L2N.passes_call (L2N.takes_of rfl rfl rfl rfl) (fun _ _ _ _ h => h)) (pa_cons (pv 1) pa_nil)))
          pss_absurd), ?_⟩
    obtain ⟨dx, pl, zs, hx, hpl, hA⟩ := id hS
    refine ⟨.ref x, rfl, x, dx, _, rfl, hx, rfl, .str s, rfl, ?_⟩
    exact ⟨x, a.C_EventSystem, 12, rs, s, rfl, T.cl_EventSystem, T.na_EventSystem_pairs, hS, os, (fun t e => by rw [hn] at e; cases e), fun _ => w⟩
theorem ok_p_rate_of (T : Txt K mg a) : FnOk P w K mg base CX0 5 a.f_p_rate_of a.fd_p_rate_of ["system", "name"] (sp_p_rate_of K) := LmN.fn0_of (okx_p_rate_of T) (fun vs H Q E h => h.2.elim)
end
section
variable {P : Program} {w : World} {K : PySem.W.Frag} {mg : Str → Option Value} {base : Heap} {a : Ad}
def sp_o_EventSystem_len (K : PySem.W.Frag) : Sp := fun vs H Q _ => ∃ (x C : Addr) (n : Nat) (rs : List Row), vs = [.ref x] ∧ Cls K C ∧ NoAttr K C "pairs" ∧ SysAt K H C x n rs ∧ Q (.int ((rs.length : Nat) : Int)) H

theorem ok_o_EventSystem_len (T : Txt K mg a) : FnOk P w K mg base CX0 1 a.f_o_EventSystem_len a.fd_o_EventSystem_len ["self"] (sp_o_EventSystem_len K) := by
  refine T.F_o_EventSystem_len.ok sc_o_EventSystem_len (fun vs H Q E h => ?_) (fun cdv A outer s H vs Q E hr h => ?_)
  · obtain ⟨x, C, n, rs, rfl, _⟩ := h
    rfl
  · obtain ⟨x, C, n, rs, rfl, hC, hN, ⟨dx, pl, ys, hx, hpl, hA⟩, w⟩ := h
    refine ⟨_, (pss_one (ps_ret (pe_callB call_len (by rfl) T.n_len (by decide +kernel) (pa_cons (pe_fld (pv 0) rfl) pa_nil)))), ?_⟩
    rw [← hA.1] at w
    exact ⟨.ref x, rfl, x, C, dx, _, .ref pl, rfl, hx, hC, hN, rfl, .ref pl, ys.length, rfl, .inl ⟨_, SqL.of hpl, rfl⟩, w⟩
end
section
variable {P : Program} {w : World} {K : PySem.W.Frag} {mg : Str → Option Value} {base : Heap} {a : Ad}
def sp_p_is_regime (K : PySem.W.Frag) : Sp := fun vs _ _ _ => vs.length = 4 ∧ False
def spx_p_is_regime (K : PySem.W.Frag) (a : Ad) : Sp := fun vs H Q E => ∃ (x t u : Addr) (xs ys : List V) (rs : List Row) (r : Int), vs = [.ref x, .ref t, .ref u, .int r] ∧ SysAt K H a.C_EventSystem x 12 rs ∧ SqL K H t xs ∧ SqL K H u ys ∧ rs.length ≤ 1000 ∧ ((¬ (xs.length = rs.length ∧ ys.length = rs.length) ∧ Rz0 a.C_InvalidTimes "InvalidTimes" E H) ∨ (xs.length = rs.length ∧ ys.length = rs.length ∧ r < 0 ∧ Rz1 a.C_InvalidRound "InvalidRound" "number" (.int r) E H))

theorem okx_p_is_regime (T : Txt K mg a) : FnOk P w K mg base (L2N.CX P w) 4 a.f_p_is_regime a.fd_p_is_regime ["system", "times", "rates", "since"] (spx_p_is_regime K a) := by
  have G_i_InvalidTimes := ok_i_InvalidTimes (P := P) (w := w) (base := base) T
  have G_i_InvalidRound := ok_i_InvalidRound (P := P) (w := w) (base := base) T
  have G_o_EventSystem_len := ok_o_EventSystem_len (P := P) (w := w) (base := base) T
  refine LmN.okN T.F_p_is_regime sc_p_is_regime (fun vs H Q E h => ?_) (fun cdv A outer s H vs Q E hr h => ?_)
  · obtain ⟨x, t, u, xs, ys, rs, r, rfl, _⟩ := h
    rfl
  · obtain ⟨x, t, u, xs, ys, rs, r, rfl, hS, ht, hu, r1000, w⟩ := h
    refine ⟨_, (pss_cons (ps_if (PW.pt (pw_or (pt_cmpR op_ne (pe_callB call_len (by rfl) T.n_len (by decide +kernel) (pa_cons (pv 1) pa_nil)) (pe_callB (OwQ.call_lenO G_o_EventSystem_len T.me_o_EventSystem_len.at_ T.me_o_EventSystem_len.fn T.b_o_EventSystem_len pass0 (hr.mono (by first | decide | omega))) (by rfl) T.n_len (by decide +kernel) (pa_cons (pv 0) pa_nil)) (nomark _)) (pw_or1 (pt_cmpR op_ne (pe_callB call_len (by rfl) T.n_len (by decide +kernel) (pa_cons (pv 2) pa_nil)) (pe_callB (OwQ.call_lenO G_o_EventSystem_len T.me_o_EventSystem_len.at_ T.me_o_EventSystem_len.fn T.b_o_EventSystem_len pass0 (hr.mono (by first | decide | omega))) (by rfl) T.n_len (by decide +kernel) (pa_cons (pv 0) pa_nil)) (nomark _))))) (pss_one (L2N.ps_raise rfl (L2N.takes_of rfl rfl rfl rfl) (ExB.pmk0 ⟨_, _, _, _, T.oC_InvalidTimes⟩ T.iC_InvalidTimes T.tI_InvalidTimes G_i_InvalidTimes (hr.mono (by first | decide | omega)) T.b_i_InvalidTimes .nil pass0 (by rfl) T.gC_InvalidTimes))) pss_nil)
          (pss_cons (ps_if (pt_cmpR op_lt (pv 3) pe_int (nomark _)) (pss_one (L2N.ps_raise rfl (L2N.takes_of rfl rfl rfl rfl) (ExB.pmk1 ⟨_, _, _, _, T.oC_InvalidRound⟩ T.iC_InvalidRound T.tI_InvalidRound G_i_InvalidRound (hr.mono (by first | decide | omega)) T.b_i_InvalidRound .nil pass0 (by rfl) T.gC_InvalidRound (pa_cons (pv 3) pa_nil)))) pss_nil)
          pss_absurd)), ?_⟩
    obtain ⟨dx, pl, zs, hx, hpl, hA⟩ := id hS
    refine ⟨.ref t, rfl, .ref t, xs.length, rfl, .inl ⟨_, ht, rfl⟩, .ref x, rfl, x, dx, _, rfl, hx, x, a.C_EventSystem, 12, rs, rfl, T.cl_EventSystem, T.na_EventSystem_pairs, hS, _, rfl, ⟨by omega, by omega⟩, ?_⟩
    have ni : ∀ {m n : Nat}, m ≠ n → decide (V.int (m : Int) = V.int (n : Int)) = false := fun {m n} h => decide_eq_false fun z => h (by have := V.int.inj z; omega)
    by_cases e1 : xs.length = rs.length
    rotate_left
    · have w0 := w.resolve_right fun z => e1 z.1
      refine ⟨rfl, _, rfl, ifT (by rw [ni e1]; rfl) (ifT rfl (raise_InvalidTimes T (Same.refl H) w0.2))⟩
    refine ⟨rfl, _, rfl, ifF (by rw [e1]; simp) ?_⟩
    refine ⟨.ref u, rfl, .ref u, ys.length, rfl, .inl ⟨_, hu, rfl⟩, .ref x, rfl, x, dx, _, rfl, hx, x, a.C_EventSystem, 12, rs, rfl, T.cl_EventSystem, T.na_EventSystem_pairs, hS, _, rfl, ⟨by omega, by omega⟩, ?_⟩
    by_cases e2 : ys.length = rs.length
    rotate_left
    · have w0 := w.resolve_right fun z => e2 z.2.1
      refine ⟨rfl, _, rfl, ifT (by rw [ni e2]; rfl) (raise_InvalidTimes T (Same.refl H) w0.2)⟩
    refine ⟨rfl, _, rfl, ifF (by rw [e2]; simp) ?_⟩
    obtain ⟨_, _, r0, w1⟩ := w.resolve_left fun z => z.1 ⟨e1, e2⟩
    exact ⟨.int r, rfl, r, 0, rfl, rfl, _, rfl, ifT (decide_eq_true r0) (raise_InvalidRound T (fun _ h => ⟨_, rfl, h⟩) (Same.refl H) w1)⟩
theorem ok_p_is_regime (T : Txt K mg a) : FnOk P w K mg base CX0 4 a.f_p_is_regime a.fd_p_is_regime ["system", "times", "rates", "since"] (sp_p_is_regime K) := LmN.fn0_of (okx_p_is_regime T) (fun vs H Q E h => h.2.elim)
end
section
variable {P : Program} {w : World} {K : PySem.W.Frag} {mg : Str → Option Value} {base : Heap} {a : Ad}
def spRowNames (K : PySem.W.Frag) (N : Option (Bool × Str) → VK → XK → Hp → Prop) : Sp := fun vs H Q E => ∃ (l : Addr) (xs : List V) (rs : List Row) (n : Nat), vs = [.ref l] ∧ H l = some (.lst xs) ∧ AllG (RowAt K H n) xs rs ∧ xs.length ≤ 1000 ∧ (∀ r ∈ rs, okNm r.1) ∧ N (nmErr [] (rs.map Prod.fst)) Q E H
def sp_p_check_row_names (K : PySem.W.Frag) : Sp := spRowNames K fun e Q _ H => e = none ∧ ∀ H', Same H H' → Q .non H'
def spx_p_check_row_names (K : PySem.W.Frag) (a : Ad) : Sp := spRowNames K fun e Q E H => (e = none → ∀ H', Same H H' → Q .non H') ∧ (∀ s, e = some (true, s) → Rz1 a.C_InvalidName "InvalidName" "name" (.str s) E H) ∧ (∀ s, e = some (false, s) → Rz1 a.C_DuplicateName "DuplicateName" "name" (.str s) E H)

theorem okx_p_check_row_names (T : Txt K mg a) : FnOk P w K mg base (L2N.CX P w) 4 a.f_p_check_row_names a.fd_p_check_row_names ["rows"] (spx_p_check_row_names K a) := by
  have G_p_is_valid_name := ok_p_is_valid_name (P := P) (w := w) (base := base) T
  have G_i_InvalidName := ok_i_InvalidName (P := P) (w := w) (base := base) T
  have G_i_DuplicateName := ok_i_DuplicateName (P := P) (w := w) (base := base) T
  refine LmN.okN T.F_p_check_row_names sc_p_check_row_names (fun vs H Q E h => ?_) (fun cdv A outer s H vs Q E hr h => ?_)
  · obtain ⟨l, xs, rs, n, rfl, _⟩ := h
    rfl
  · obtain ⟨l, xs, rs, n, rfl, hl, hA, xl, nm, w, w1, w2⟩ := h
    refine ⟨_, (pss_cons (ps_set (i := 1) sc_p_check_row_names.nd rfl (by first | exact Or.inl rfl | exact Or.inr rfl) (pe_lst pa_nil))
          (pss_one (ps_for (passes_of rfl) rfl (pi_list (pv 0)) (pg_tup rfl (pgs_cons (pg_name (i := 2) sc_p_check_row_names.nd rfl (by first | exact Or.inl rfl | exact Or.inr rfl)) (pgs_cons (pg_name (i := 3) sc_p_check_row_names.nd rfl (by first | exact Or.inl rfl | exact Or.inr rfl)) pgs_nil))) (pss_cons (ps_if (pt_not (pt_val (pe_call G_p_is_valid_name (hr.mono (by first | decide | omega)) (by rfl) T.g_p_is_valid_name T.F_p_is_valid_name.kp T.b_p_is_valid_name .nil pass0 (pa_cons (pv 2) pa_nil)))) (pss_one (L2N.ps_raise rfl (L2N.takes_of rfl rfl rfl rfl) (ExB.pmk1 ⟨_, _, _, _, T.oC_InvalidName⟩ T.iC_InvalidName T.tI_InvalidName G_i_InvalidName (hr.mono (by first | decide | omega)) T.b_i_InvalidName .nil pass0 (by rfl) T.gC_InvalidName (pa_cons (pv 2) pa_nil)))) pss_nil)
          (pss_cons (ps_if (pt_cmpR op_in_seq (pv 2) (pv 1) (by rfl)) (pss_one (L2N.ps_raise rfl (L2N.takes_of rfl rfl rfl rfl) (ExB.pmk1 ⟨_, _, _, _, T.oC_DuplicateName⟩ T.iC_DuplicateName T.tI_DuplicateName G_i_DuplicateName (hr.mono (by first | decide | omega)) T.b_i_DuplicateName .nil pass0 (by rfl) T.gC_DuplicateName (pa_cons (pv 2) pa_nil)))) pss_nil)
          (pss_one (ps_expr (pe_bm PySem.F.plainAttrs_list PySem.F.slot_list_append PySem.F.type_list_append mt_append (pv 1) (pa_cons (pv 2) pa_nil))))))))), ?_⟩
    refine ⟨sz (by show 0 ≤ 100000; decide), fun sn nsn => ?_⟩
    have s0 := Same.new (o := .lst []) nsn
    have lsn : l ≠ sn := ne_of_none hl nsn
    refine ⟨.ref l, rfl, l, rfl, ⟨_, SqL.of (s0 _ _ hl)⟩, for_list (K := K) (a := l) (xs := xs) (fun i σ H2 => ∃ y2 y3, σ = [some (.ref l), some (.ref sn), y2, y3] ∧ Same H H2 ∧ H2 l = some (.lst xs) ∧ AllG (RowAt K H2 n) xs rs ∧ H2 sn = some (.lst (((rs.take i).map Prod.fst).map V.str)) ∧ nmErr [] (rs.map Prod.fst) = nmErr ((rs.take i).map Prod.fst) ((rs.drop i).map Prod.fst)) ⟨none, none, rfl, s0, s0 _ _ hl, hA.mono fun _ _ z => z.same s0, upd_same, rfl⟩ (fun i σ H2 _ ⟨_, _, _, _, z, _⟩ => SqL.of z) ?_ ?_⟩
    · rintro i x σ H2 hx ⟨y2, y3, rfl, s2, hl2, hA2, hsn, he⟩
      obtain ⟨r, hr', p, x', rfl, hp, hx'⟩ := hA2.at hx
      have tk : rs.take (i + 1) = rs.take i ++ [r] := by rw [List.take_add_one, hr']; rfl
      rw [dropAt hr', List.map_cons, nmErr] at he
      have okr := nm r (List.mem_of_getElem? hr')
      refine ⟨p, _, rfl, hp, rfl, _, _, rfl, _, _, rfl, rfl, .str r.1, rfl, .str r.1, rfl, .inl ⟨r.1, rfl, by have := okr.2; omega, fun H3 s3 => ⟨_, rfl, ?_⟩⟩⟩
      cases hn : nameB r.1 with
      | false =>
        rw [if_pos hn] at he
        exact ifT rfl (raise_InvalidName T okr (fun _ h => ⟨_, rfl, h⟩) (s2.trans s3) (w1 _ he))
      | true =>
        rw [if_neg (by rw [hn]; decide)] at he
        refine ifF (by decide) ?_
        have hsn3 := s3 _ _ hsn
        refine ⟨.str r.1, rfl, .ref sn, rfl, sn, _, rfl, .inl (SqL.of hsn3), rfl, flat_strs _, _, rfl, ?_⟩
        show (if (inV (.str r.1) _) = true then _ else _)
        rw [in_strs]
        by_cases hm : r.1 ∈ (rs.take i).map Prod.fst
        · rw [if_pos hm] at he
          exact ifT (decide_eq_true hm) (raise_DuplicateName T okr (fun _ h => ⟨_, rfl, h⟩) (s2.trans s3) (w2 _ he))
        · rw [if_neg hm] at he
          refine ifF (decide_eq_false hm) ?_
          refine ⟨.ref sn, rfl, .inl ⟨rfl, _, SqL.of hsn3⟩, .str r.1, rfl, sn, _, _, rfl, rfl, hsn3, ?_, ?_⟩
          · have il := (List.getElem?_eq_some_iff.mp hx).1
            rw [List.length_map, List.length_map, List.length_take]; exact szl (by omega)
          · refine ⟨_, _, rfl, fun b o e => ?_, ?_, hA2.mono fun _ _ z => (z.same s3).put hsn3, ?_, ?_⟩
            · rw [upd_ne (ne_of_none e nsn)]; exact s3 _ _ (s2 _ _ e)
            · rw [upd_ne lsn]; exact s3 _ _ hl2
            · rw [upd_same, tk, List.map_append, List.map_append]; rfl
            · rw [tk, List.map_append]; exact he
    · rintro σ H2 ⟨y2, y3, rfl, s2, hl2, hA2, hsn, he⟩
      rw [hA.1, List.drop_length] at he
      exact w he H2 s2
theorem ok_p_check_row_names (T : Txt K mg a) : FnOk P w K mg base CX0 4 a.f_p_check_row_names a.fd_p_check_row_names ["rows"] (sp_p_check_row_names K) := LmN.fn0_of (okx_p_check_row_names T) (fun vs H Q E h => by
  obtain ⟨l, xs, rs, n, rfl, h1, h2, h3, h4, e, w⟩ := h
  exact ⟨l, xs, rs, n, rfl, h1, h2, h3, h4, fun _ => w, (fun s z => by rw [e] at z; cases z), (fun s z => by rw [e] at z; cases z)⟩)
end
section
variable {P : Program} {w : World} {K : PySem.W.Frag} {mg : Str → Option Value} {base : Heap} {a : Ad}
def spRowTerms (K : PySem.W.Frag) (N : Option (Bool × Str) → VK → XK → Hp → Prop) : Sp := fun vs H Q E => ∃ (l : Addr) (xs : List V) (rs : List Row) (n : Nat), vs = [.ref l] ∧ H l = some (.lst xs) ∧ AllG (RowAt K H n) xs rs ∧ 11 ≤ n ∧ xs.length ≤ 1000 ∧ (∀ r ∈ rs, okNm r.1) ∧ N (tmErr rs) Q E H
def sp_p_check_row_terms (K : PySem.W.Frag) : Sp := spRowTerms K fun e Q _ H => e = none ∧ ∀ H', Same H H' → Q .non H'
def spx_p_check_row_terms (K : PySem.W.Frag) (a : Ad) : Sp := spRowTerms K fun e Q E H => (e = none → ∀ H', Same H H' → Q .non H') ∧ (∀ s, e = some (true, s) → Rz1 a.C_InvalidTerm "InvalidTerm" "name" (.str s) E H) ∧ (∀ s, e = some (false, s) → Rz1 a.C_UnknownEvent "UnknownEvent" "name" (.str s) E H)

theorem okx_p_check_row_terms (T : Txt K mg a) : FnOk P w K mg base (L2N.CX P w) 18 a.f_p_check_row_terms a.fd_p_check_row_terms ["rows"] (spx_p_check_row_terms K a) := by
  have G_p_check_names := ok_p_check_names (P := P) (w := w) (base := base) T
  have G_p_is_valid_term := ok_p_is_valid_term (P := P) (w := w) (base := base) T
  have G_i_InvalidTerm := ok_i_InvalidTerm (P := P) (w := w) (base := base) T
  have Gx_p_check_names := okx_p_check_names (P := P) (w := w) (base := base) T
  refine LmN.okN T.F_p_check_row_terms sc_p_check_row_terms (fun vs H Q E h => ?_) (fun cdv A outer s H vs Q E hr h => ?_)
  · obtain ⟨l, xs, rs, n, rfl, _⟩ := h
    rfl
  · obtain ⟨l, xs, rs, n, rfl, hl, hA, n11, xl, nm, w, w1, w2⟩ := h
    refine ⟨_, (pss_cons (ps_for (passes_of rfl) rfl (pi_list (pv 0)) (pg_tup rfl (pgs_cons (pg_name (i := 1) sc_p_check_row_terms.nd rfl (by first | exact Or.inl rfl | exact Or.inr rfl)) (pgs_cons (pg_name (i := 2) sc_p_check_row_terms.nd rfl (by first | exact Or.inl rfl | exact Or.inr rfl)) pgs_nil))) (pss_one (ps_if (pt_not (pt_val (pe_call G_p_is_valid_term (hr.mono (by first | decide | omega)) (by rfl) T.g_p_is_valid_term T.F_p_is_valid_term.kp T.b_p_is_valid_term .nil pass0 (pa_cons (pv 2) pa_nil)))) (pss_one (L2N.ps_raise rfl (L2N.takes_of rfl rfl rfl rfl) (ExB.pmk1 ⟨_, _, _, _, T.oC_InvalidTerm⟩ T.iC_InvalidTerm T.tI_InvalidTerm G_i_InvalidTerm (hr.mono (by first | decide | omega)) T.b_i_InvalidTerm .nil pass0 (by rfl) T.gC_InvalidTerm (pa_cons (pv 1) pa_nil)))) pss_nil)))
          (pss_cons (ps_setLc (i := 3) (own := [("name", 1), ("term", 2)]) (g := gTup K 2 (gCons (gName 1) (gCons (gName 2) gNil))) rfl sc_p_check_row_terms.nd rfl rfl (sw_true rfl rfl rfl (by decide +kernel)) (pi_list (pv 0)) (blkOk_by (own := [("name", 1), ("term", 2)]) (N := ["rows", "name", "term", "known"]) (sc := defScope s_p_check_row_terms) (by decide +kernel)) (fun _ _ _ _ _ => (pg_tup rfl (pgs_cons (pg_name (i := 1) sc_p_check_row_terms.nd rfl (Or.inl rfl)) (pgs_cons (pg_name (i := 2) sc_p_check_row_terms.nd rfl (Or.inl rfl)) pgs_nil)))) (fun _ _ _ _ _ => pts_nil) (fun _ _ _ _ _ => (pv 1)))
          (pss_one (ps_for (passes_of rfl) rfl (pi_list (pv 0)) (pg_tup rfl (pgs_cons (pg_name (i := 1) sc_p_check_row_terms.nd rfl (by first | exact Or.inl rfl | exact Or.inr rfl)) (pgs_cons (pg_name (i := 2) sc_p_check_row_terms.nd rfl (by first | exact Or.inl rfl | exact Or.inr rfl)) pgs_nil))) (pss_one (ps_expr (pe_call Gx_p_check_names (hr.mono (by first | decide | omega)) (by rfl) T.g_p_check_names T.F_p_check_names.kp T.b_p_check_names .nil (L2N.passes_call (L2N.takes_of rfl rfl rfl rfl) (fun _ _ _ _ h => h)) (pa_cons (pv 2) (pa_cons (pv 3) pa_nil))))))))), ?_⟩
    refine ⟨.ref l, rfl, l, rfl, ⟨_, SqL.of hl⟩, for_list (K := K) (a := l) (xs := xs) (fun i σ H2 => ∃ y1 y2, σ = [some (.ref l), y1, y2, none] ∧ Same H H2 ∧ H2 l = some (.lst xs) ∧ AllG (RowAt K H2 n) xs rs ∧ (rs.filter fun r => !(isT 10 r.2 && decide (r.2.size ≤ 40))) = (rs.drop i).filter fun r => !(isT 10 r.2 && decide (r.2.size ≤ 40))) ⟨none, none, rfl, Same.refl H, hl, hA, rfl⟩ (fun i σ H2 _ ⟨_, _, _, _, z, _⟩ => SqL.of z) ?_ ?_⟩
    · rintro i x σ H2 hx ⟨y1, y2, rfl, s2, hl2, hA2, he⟩
      obtain ⟨r, hr', p, x', rfl, hp, hx'⟩ := hA2.at hx
      rw [dropAt hr', List.filter_cons] at he
      have okr := nm r (List.mem_of_getElem? hr')
      refine ⟨p, _, rfl, hp, rfl, _, _, rfl, _, _, rfl, rfl, x', rfl, x', r.2, n, rfl, hx', n11, fun H3 s3 => ⟨_, rfl, ?_⟩⟩
      cases hb : (isT 10 r.2 && decide (r.2.size ≤ 40)) with
      | false =>
        rw [hb] at he
        exact ifT rfl (raise_InvalidTerm T okr (fun _ h => ⟨_, rfl, h⟩) (s2.trans s3) (w1 _ (tmErr_bad he)))
      | true =>
        rw [hb] at he
        exact ifF (by decide) ⟨_, _, rfl, s2.trans s3, s3 _ _ hl2, hA2.mono fun _ _ z => z.same s3, he⟩
    · rintro σ H2 ⟨y1, y2, rfl, s2, hl2, hA2, he⟩
      rw [hA.1, List.drop_length] at he
      have good : ∀ r ∈ rs, isT 10 r.2 = true ∧ r.2.size ≤ 40 := fun r hr => by
        have := List.filter_eq_nil_iff.mp he r hr
        rw [Bool.not_eq_true, Bool.not_eq_false', Bool.and_eq_true] at this
        exact ⟨this.1, of_decide_eq_true this.2⟩
      have te := tmErr_unk he
      refine ⟨.ref l, rfl, l, rfl, ⟨_, SqL.of hl2⟩, fun kn nkn => ?_⟩
      have s3 := Same.new (o := .lst []) nkn
      have lkn : l ≠ kn := ne_of_none hl2 nkn
      refine lc_list (K := K) (a := l) (xs := xs) (fun i H4 => Same H2 H4 ∧ H4 kn = some (.lst (((rs.take i).map Prod.fst).map V.str))) ⟨s3, upd_same⟩ (fun i H4 _ h4 => SqL.of (h4.1 _ _ hl2)) ?_ ?_
      · rintro i y H4 hy ⟨s4, hk⟩
        obtain ⟨r, hr', p, x', rfl, hp, hx'⟩ := hA2.at hy
        have tk : rs.take (i + 1) = rs.take i ++ [r] := by rw [List.take_add_one, hr']; rfl
        have il := (List.getElem?_eq_some_iff.mp hy).1
        refine ⟨p, _, rfl, Same.T s4 hp, rfl, _, _, rfl, _, _, rfl, rfl, rfl, tYes_if ?_⟩
        refine ⟨.str r.1, rfl, _, hk, by rw [List.length_map, List.length_map, List.length_take]; exact szl (by omega), fun b o e => ?_, ?_⟩
        · rw [upd_ne (ne_of_none e nkn)]; exact s4 _ _ e
        · rw [upd_same, tk, List.map_append, List.map_append]; rfl
      · rintro H4 ⟨s4, hk⟩
        rw [hA.1, List.take_length] at hk
        have hl4 := s4 _ _ hl2
        refine ⟨.ref l, rfl, l, rfl, ⟨_, SqL.of hl4⟩, for_list (K := K) (a := l) (xs := xs) (fun i σ H5 => ∃ y1 y2, σ = [some (.ref l), y1, y2, some (.ref kn)] ∧ Same H H5 ∧ H5 l = some (.lst xs) ∧ AllG (RowAt K H5 n) xs rs ∧ H5 kn = some (.lst ((rs.map Prod.fst).map V.str)) ∧ (rs.flatMap fun r => unk (rs.map Prod.fst) r.2) = (rs.drop i).flatMap fun r => unk (rs.map Prod.fst) r.2) ⟨_, _, rfl, s2.trans s4, hl4, hA2.mono fun _ _ z => z.same s4, hk, rfl⟩ (fun i σ H5 _ ⟨_, _, _, _, z, _⟩ => SqL.of z) ?_ ?_⟩
        · rintro i x σ H5 hx ⟨y1, y2, rfl, s5, hl5, hA5, hk5, he5⟩
          obtain ⟨r, hr', p, x', rfl, hp, hx'⟩ := hA5.at hx
          have hg := good r (List.mem_of_getElem? hr')
          rw [dropAt hr', List.flatMap_cons] at he5
          have ev := isT.ev hg.1
          refine ⟨p, _, rfl, hp, rfl, _, _, rfl, _, _, rfl, rfl, x', rfl, .ref kn, rfl, x', kn, r.2, rs.map Prod.fst, rfl, (hx'.low hg.1).le (by decide), ev.le (by decide), ?_, hk5, fun e0 H6 s6 => ?_, fun u us e1 => ⟨nm_ok (isT.nm hg.1 u (unk_in e1)), ?_⟩⟩
          · have := ev.len; omega
          · rw [e0, List.nil_append] at he5
            exact ⟨_, _, rfl, s5.trans s6, s6 _ _ hl5, hA5.mono fun _ _ z => z.same s6, s6 _ _ hk5, he5⟩
          · refine Rz1.same s5 (w2 u ?_)
            rw [te, he5, e1]
            rfl
        · rintro σ H5 ⟨y1, y2, rfl, s5, hl5, hA5, hk5, he5⟩
          rw [hA.1, List.drop_length] at he5
          exact w (by rw [te, he5]; rfl) H5 s5
theorem ok_p_check_row_terms (T : Txt K mg a) : FnOk P w K mg base CX0 18 a.f_p_check_row_terms a.fd_p_check_row_terms ["rows"] (sp_p_check_row_terms K) := LmN.fn0_of (okx_p_check_row_terms T) (fun vs H Q E h => by
  obtain ⟨l, xs, rs, n, rfl, h1, h2, h3, h4, h5, e, w⟩ := h
  exact ⟨l, xs, rs, n, rfl, h1, h2, h3, h4, h5, fun _ => w, (fun s z => by rw [e] at z; cases z), (fun s z => by rw [e] at z; cases z)⟩)
end
section
variable {P : Program} {w : World} {K : PySem.W.Frag} {mg : Str → Option Value} {base : Heap} {a : Ad}
def spSysInit (K : PySem.W.Frag) (N : Option RE → (Prop) → VK → XK → Hp → Prop) : Sp := fun vs H Q E => ∃ (x l dx C : Addr) (xs : List V) (rs : List Row) (n : Nat), vs = [.ref x, .ref l] ∧ H x = some (.ins C dx []) ∧ Cls K C ∧ NoAttr K C "pairs" ∧ H l = some (.lst xs) ∧ AllG (RowAt K H n) xs rs ∧ 11 ≤ n ∧ xs.length ≤ 1000 ∧ (∀ r ∈ rs, okNm r.1) ∧ N (sysErr rs) (∀ pl ys H', (∀ b o, b ≠ x → H b = some o → H' b = some o) → H pl = none → H' pl = some (.lst ys) → AllG (RowAt K H' n) ys rs → H' x = some (.ins C dx [("pairs", .ref pl)]) → Q .non H') Q E H
def sp_o_EventSystem_init (K : PySem.W.Frag) : Sp := spSysInit K fun e W _ _ _ => e = none ∧ W
def spx_o_EventSystem_init (K : PySem.W.Frag) (a : Ad) : Sp := spSysInit K fun e W _ E H => (e = none → W) ∧ ∀ z, e = some z → Rz1 (z.cls a) z.tag z.fld z.val E H

theorem okx_o_EventSystem_init (T : Txt K mg a) : FnOk P w K mg base (L2N.CX P w) 19 a.f_o_EventSystem_init a.fd_o_EventSystem_init ["self", "rows"] (spx_o_EventSystem_init K a) := by
  have G_p_check_row_names := ok_p_check_row_names (P := P) (w := w) (base := base) T
  have G_p_check_row_terms := ok_p_check_row_terms (P := P) (w := w) (base := base) T
  have G_i_InvalidCount := ok_i_InvalidCount (P := P) (w := w) (base := base) T
  have Gx_p_check_row_names := okx_p_check_row_names (P := P) (w := w) (base := base) T
  have Gx_p_check_row_terms := okx_p_check_row_terms (P := P) (w := w) (base := base) T
  refine LmN.okN T.F_o_EventSystem_init sc_o_EventSystem_init (fun vs H Q E h => ?_) (fun cdv A outer s H vs Q E hr h => ?_)
  · obtain ⟨x, l, dx, C, xs, rs, n, rfl, _⟩ := h
    rfl
  · obtain ⟨x, l, dx, C, xs, rs, n, rfl, hx, hC, hN, hl, hA, n11, xl, nm, w, we⟩ := h
    refine ⟨_, (pss_cons (ps_if (pt_not (pt_chain op_le op_le pe_int (pe_callB call_len (by rfl) T.n_len (by decide +kernel) (pa_cons (pv 1) pa_nil)) (pe_glob (v := .int 6) (by rfl) T.c_MAX_EVENTS ⟨_, rfl⟩))) (pss_one (L2N.ps_raise rfl (L2N.takes_of rfl rfl rfl rfl) (ExB.pmk1 ⟨_, _, _, _, T.oC_InvalidCount⟩ T.iC_InvalidCount T.tI_InvalidCount G_i_InvalidCount (hr.mono (by first | decide | omega)) T.b_i_InvalidCount .nil pass0 (by rfl) T.gC_InvalidCount (pa_cons (pe_callB call_len (by rfl) T.n_len (by decide +kernel) (pa_cons (pv 1) pa_nil)) pa_nil)))) pss_nil)
          (pss_cons (ps_expr (pe_call Gx_p_check_row_names (hr.mono (by first | decide | omega)) (by rfl) T.g_p_check_row_names T.F_p_check_row_names.kp T.b_p_check_row_names .nil (L2N.passes_call (L2N.takes_of rfl rfl rfl rfl) (fun _ _ _ _ h => h)) (pa_cons (pv 1) pa_nil)))
          (pss_cons (ps_expr (pe_call Gx_p_check_row_terms (hr.mono (by first | decide | omega)) (by rfl) T.g_p_check_row_terms T.F_p_check_row_terms.kp T.b_p_check_row_terms .nil (L2N.passes_call (L2N.takes_of rfl rfl rfl rfl) (fun _ _ _ _ h => h)) (pa_cons (pv 1) pa_nil)))
          (pss_one (ps_fld (pv 0) (pe_lc (own := [("name", 2), ("term", 3)]) (g := gTup K 2 (gCons (gName 2) (gCons (gName 3) gNil))) rfl sc_o_EventSystem_init.nd (pi_list (pv 1)) (blkOk_by (own := [("name", 2), ("term", 3)]) (N := ["self", "rows", "name", "term"]) (sc := defScope s_o_EventSystem_init) (by decide +kernel)) (fun _ _ _ _ _ => (pg_tup rfl (pgs_cons (pg_name (i := 2) sc_o_EventSystem_init.nd rfl (Or.inl rfl)) (pgs_cons (pg_name (i := 3) sc_o_EventSystem_init.nd rfl (Or.inl rfl)) pgs_nil)))) (fun _ _ _ _ _ => pts_nil) (fun _ _ _ _ _ => (pe_tup (pa_cons (pv 2) (pa_cons (pv 3) pa_nil))))) rfl))))), ?_⟩
    have ln : xs.length = rs.length := hA.1
    refine ⟨.ref l, rfl, .ref l, xs.length, rfl, .inl ⟨_, SqL.of hl, rfl⟩, 1, (xs.length : Int), rfl, rfl, _, rfl, ?_⟩
    have bad : ¬ (1 ≤ xs.length ∧ xs.length ≤ 6) → Rz1 a.C_InvalidCount "InvalidCount" "quantity" (.int (xs.length : Nat)) E H := fun z => by
      have := we (.cnt rs.length) (by unfold sysErr; rw [if_neg (by rw [← ln]; exact z)])
      rw [ln]
      exact this
    have rz : ¬ (1 ≤ xs.length ∧ xs.length ≤ 6) → ExB.tMk a.C_InvalidCount (sp_i_InvalidCount K) [] (tCons (tCB (fun xs H_2 Q => ∃ x n, xs = [x] ∧ LenV K x H_2 n ∧ Q (V.int ↑n) H_2) (tCons (tVar 1) tNil)) tNil) (L2.start ["self", "rows", "name", "term"] [V.ref x, V.ref l]) H fun cls d H' => E cls d H' := fun z =>
      raise_InvalidCount T (i := (xs.length : Nat)) (by omega) (fun _ h => ⟨.ref l, rfl, .ref l, xs.length, rfl, .inl ⟨_, SqL.of hl, rfl⟩, h⟩) (Same.refl H) (bad z)
    refine ite2 (fun e1 => ?_) (fun e1 => ?_)
    rotate_left
    · exact ⟨false, rfl, ifT rfl (rz fun z => e1 (decide_eq_true (by omega)))⟩
    have l1 := of_decide_eq_true e1
    refine ⟨(xs.length : Int), 6, rfl, rfl, _, rfl, ?_⟩
    by_cases l6 : xs.length ≤ 6
    rotate_left
    · exact ifT (by rw [decide_eq_false (by omega)]; rfl) (rz fun z => l6 z.2)
    refine ifF (by rw [decide_eq_true (by omega)]; rfl) ?_
    have se : sysErr rs = bodyErr rs := by unfold sysErr; rw [if_pos (by rw [← ln]; omega)]
    rw [se] at w we
    refine ⟨.ref l, rfl, l, xs, rs, n, rfl, hl, hA, xl, nm, fun e0 H1 s1 => ?_, fun z ez => ?_, fun z ez => ?_⟩
    rotate_left
    · exact we (.nam z) (by unfold bodyErr; rw [ez])
    · exact we (.dup z) (by unfold bodyErr; rw [ez])
    have be : bodyErr rs = match tmErr rs with
        | some (true, s) => some (.trm s)
        | some (false, s) => some (.unk s)
        | none => none := by unfold bodyErr; rw [e0] <;> (cases tmErr rs with | none => rfl | some z => obtain ⟨b, z⟩ := z; cases b <;> rfl)
    refine ⟨.ref l, rfl, l, xs, rs, n, rfl, s1 _ _ hl, hA.mono fun _ _ z => z.same s1, n11, xl, nm, fun e1 H2 s2 => ?_, fun z ez => ?_, fun z ez => ?_⟩
    rotate_left
    · exact Rz1.same s1 (we (.trm z) (by rw [be, ez]))
    · exact Rz1.same s1 (we (.unk z) (by rw [be, ez]))
    have s12 := s1.trans s2
    have hl2 := s12 _ _ hl
    have hx2 := s12 _ _ hx
    refine ⟨.ref l, rfl, l, rfl, ⟨_, SqL.of hl2⟩, fun pl npl => ?_⟩
    have s3 := Same.new (o := .lst []) npl
    refine lc_list (K := K) (a := l) (xs := xs) (fun i H4 => Same H2 H4 ∧ ∃ ys, H4 pl = some (.lst ys) ∧ AllG (RowAt K H4 n) ys (rs.take i)) ⟨s3, [], upd_same, AllG.nil⟩ (fun i H4 _ h4 => SqL.of (h4.1 _ _ hl2)) ?_ ?_
    · rintro i y H4 hy ⟨s4, ys, hp4, hA4⟩
      obtain ⟨r, hr', p, x', rfl, hp, hx'⟩ := (hA.mono fun _ _ z => z.same (s12.trans s4)).at hy
      have tk : rs.take (i + 1) = rs.take i ++ [r] := by rw [List.take_add_one, hr']; rfl
      have il := (List.getElem?_eq_some_iff.mp hy).1
      refine ⟨p, _, rfl, hp, rfl, _, _, rfl, _, _, rfl, rfl, rfl, tYes_if ?_⟩
      refine ⟨.str r.1, rfl, x', rfl, sz (by show 2 ≤ 100000; decide), fun q nq => ?_⟩
      have s5 := Same.new (o := .tup [.str r.1, x']) nq
      have hp5 := s5 _ _ hp4
      refine ⟨ys, hp5, szl (by have := hA4.1; rw [List.length_take] at this; omega), fun b o e => ?_, ys ++ [.ref q], upd_same, ?_⟩
      · rw [upd_ne (ne_of_none e npl)]; exact s5 _ _ (s4 _ _ e)
      · rw [tk]
        exact (hA4.mono fun _ _ z => (z.same s5).put hp5).app (AllG.one (RowAt.put hp5 ⟨q, x', rfl, SqT.of upd_same, hx'.same s5⟩))
    · rintro H4 ⟨s4, ys, hp4, hA4⟩
      rw [ln, List.take_length] at hA4
      have s14 := s12.trans s4
      have hx4 := s14 _ _ hx
      refine ⟨.ref x, rfl, x, C, dx, [], rfl, hx4, hC, hN, by show 0 < 1000; decide, ?_⟩
      have xpl : pl ≠ x := (ne_of_none hx2 npl).symm
      refine w (by rw [be, e1]) pl ys _ (fun b o hb e => ?_) (s12.free npl) ?_ (hA4.mono fun _ _ z => z.imp fun _ _ q => sqIns q hx4) ?_
      · rw [upd_ne hb]; exact s14 _ _ e
      · rw [upd_ne xpl]; exact hp4
      · exact upd_same
theorem ok_o_EventSystem_init (T : Txt K mg a) : FnOk P w K mg base CX0 19 a.f_o_EventSystem_init a.fd_o_EventSystem_init ["self", "rows"] (sp_o_EventSystem_init K) := LmN.fn0_of (okx_o_EventSystem_init T) (fun vs H Q E h => by
  obtain ⟨x, l, dx, C, xs, rs, n, rfl, h1, h2, h3, h4, h5, h6, h7, h8, e, w⟩ := h
  exact ⟨x, l, dx, C, xs, rs, n, rfl, h1, h2, h3, h4, h5, h6, h7, h8, fun _ => w, (fun s z => by rw [e] at z; cases z)⟩)
end
section
variable {P : Program} {w : World} {K : PySem.W.Frag} {mg : Str → Option Value} {base : Heap} {a : Ad}
def sp_o_EventSystem_rows (K : PySem.W.Frag) : Sp := fun vs H Q _ => ∃ (x C : Addr) (n : Nat) (rs : List Row), vs = [.ref x] ∧ Cls K C ∧ NoAttr K C "pairs" ∧ SysAt K H C x n rs ∧ ∀ l ys, H l = none → AllG (RowAt K H n) ys rs → Q (.ref l) (upd H l (.lst ys))

theorem ok_o_EventSystem_rows (T : Txt K mg a) : FnOk P w K mg base CX0 1 a.f_o_EventSystem_rows a.fd_o_EventSystem_rows ["self"] (sp_o_EventSystem_rows K) := by
  refine T.F_o_EventSystem_rows.ok sc_o_EventSystem_rows (fun vs H Q E h => ?_) (fun cdv A outer s H vs Q E hr h => ?_)
  · obtain ⟨x, C, n, rs, rfl, _⟩ := h
    rfl
  · obtain ⟨x, C, n, rs, rfl, hC, hN, ⟨dx, pl, ys, hx, hpl, hA⟩, w⟩ := h
    refine ⟨_, (pss_one (ps_ret (pe_callTy call_list_of (by rfl) T.n_list (by decide +kernel) (pa_cons (pe_fld (pv 0) rfl) pa_nil)))), ?_⟩
    exact ⟨.ref x, rfl, x, C, dx, _, .ref pl, rfl, hx, hC, hN, rfl, pl, ys, rfl, .inl (SqL.of hpl), fun l nl => w l ys nl hA⟩
end
section
variable {P : Program} {w : World} {K : PySem.W.Frag} {mg : Str → Option Value} {base : Heap} {a : Ad}
def sp_l_source (K : PySem.W.Frag) : Sp := fun vs H Q _ => ∃ (b : Addr) (ns : List Int), vs = [.ref b] ∧ SqL K H b (ns.map V.int) ∧ ns.length ≤ 63 ∧ ∀ H' r, Same H H' → H r = none → Rg H' r → Q (.ref r) H'
theorem cut63 {xs : List V} (h : xs.length ≤ 63) : cutV xs none (some 63) = xs := by
  unfold cutV
  rw [HT.sIx_none, show HT.sIx xs.length xs.length (some 63) = min 63 xs.length from HT.sIx_nat xs.length xs.length 63]
  rw [List.drop_zero, show min 63 xs.length - 0 = xs.length by omega, List.take_length]

theorem ok_l_source (T : Txt K mg a) : FnOk P w K mg base CX0 1 a.f_l_source a.fd_l_source ["_law_script"] (sp_l_source K) := by
  refine T.F_l_source.ok sc_l_source (fun vs H Q E h => ?_) (fun cdv A outer s H vs Q E hr h => ?_)
  · obtain ⟨b, ns, rfl, _⟩ := h
    rfl
  · obtain ⟨b, ns, rfl, hS, hlen, w⟩ := h
    refine ⟨_, (pss_cons (ps_set (i := 1) sc_l_source.nd rfl (by first | exact Or.inl rfl | exact Or.inr rfl) (pe_op op_add pe_int (pe_op op_mul pe_int (pe_callB call_len (by rfl) T.n_len (by decide +kernel) (pa_cons (pe_slice sl_list (pv 0) po_none (po_some pe_int)) pa_nil)))))
          (pss_cons (ps_for PassesOwn.never rfl (pi_list (pe_slice sl_list (pv 0) po_none (po_some pe_int))) (pg_name (i := 2) sc_l_source.nd rfl (by first | exact Or.inl rfl | exact Or.inr rfl)) (pss_one (ps_set (i := 1) sc_l_source.nd rfl (by first | exact Or.inl rfl | exact Or.inr rfl) (pe_op op_mod (pe_op op_add (pe_op op_add (pe_op op_mul (pv 1) pe_int) (pe_op op_mod (pv 2) pe_int)) pe_int) pe_int))))
          (pss_one (ps_ret (pe_lst (pa_cons (pe_callTy call_list_of (by rfl) T.n_list (by decide +kernel) (pa_cons (pe_slice sl_list (pv 0) po_none (po_some pe_int)) pa_nil)) (pa_cons pe_int (pa_cons pe_int (pa_cons (pv 1) pa_nil))))))))), ?_⟩
    have hl : (ns.map V.int).length ≤ 63 := by rw [List.length_map]; exact hlen
    refine ⟨.ref b, rfl, 63, rfl, b, _, rfl, hS, fun p np => ?_⟩
    rw [cut63 hl]
    have s1 : Same H (upd H p (.lst (ns.map V.int))) := Same.new np
    refine ⟨.ref p, ns.length, rfl, .inl ⟨_, SqL.of upd_same, by simp⟩, 67, _, rfl, rfl, .inl ⟨by decide, by decide⟩, 9472, _, rfl, rfl, ?_⟩
    refine ⟨.ref b, rfl, 63, rfl, b, _, rfl, s1.seq hS, fun p2 np2 => ?_⟩
    rw [cut63 hl]
    have s2 : Same H (upd (upd H p (.lst (ns.map V.int))) p2 (.lst (ns.map V.int))) := s1.trans (Same.new np2)
    refine ⟨p2, rfl, ⟨_, SqL.of upd_same⟩, for_list (K := K) (a := p2) (xs := ns.map V.int) (fun i σ H' => ∃ k y, σ = [some (.ref b), some (.int k), y] ∧ 0 ≤ k ∧ k < 2147483563 ∧ H' = upd (upd H p (.lst (ns.map V.int))) p2 (.lst (ns.map V.int)))
      ⟨_, none, rfl, by omega, by omega, rfl⟩ (fun i σ H' _ ⟨_, _, _, _, _, e⟩ => by rw [e]; exact SqL.of upd_same) ?_ ?_⟩
    · rintro i y σ H' hi ⟨k, y', rfl, k0, k1, rfl⟩
      obtain ⟨z, hz, rfl⟩ : ∃ z, ns[i]? = some z ∧ y = V.int z := by
        rw [List.getElem?_map] at hi
        cases e : ns[i]? with
        | none => rw [e] at hi; cases hi
        | some z => rw [e] at hi; exact ⟨z, rfl, (Option.some.inj hi).symm⟩
      refine ⟨.int k, rfl, k, 40014, rfl, rfl, .inl ⟨by omega, by omega⟩, .int z, rfl, z, 2147483563, rfl, rfl, (show (0 : Int) < 2147483563 by decide), _, _, rfl, rfl, _, _, rfl, rfl, _, 2147483563, rfl, rfl, (show (0 : Int) < 2147483563 by decide), ?_⟩
      exact ⟨_, _, rfl, Int.emod_nonneg _ (by decide), Int.emod_lt_of_pos _ (by decide), rfl⟩
    · rintro σ H' ⟨k, y', rfl, k0, k1, rfl⟩
      refine ⟨.ref b, rfl, 63, rfl, b, _, rfl, s2.seq hS, fun p3 np3 => ?_⟩
      rw [cut63 hl]
      refine ⟨p3, _, rfl, .inl (SqL.of upd_same), fun l nl => ?_⟩
      refine ⟨.int k, rfl, sz (by show 4 ≤ 100000; decide), fun r nr => ?_⟩
      have s3 := s2.trans (Same.new (o := .lst (ns.map V.int)) np3)
      have s4 := s3.trans (Same.new (o := .lst (ns.map V.int)) nl)
      have s5 := s4.trans (Same.new (o := .lst [.ref l, .int 0, .int 0, .int k]) nr)
      refine w _ r s5 (s4.free nr) ⟨l, ns, 0, 0, k, upd_same, ?_, by omega, by omega, by omega, k0, k1⟩
      rw [upd_ne (fun z => by rw [z] at nl; rw [← z, upd_same] at nr; cases nr)]
      exact upd_same
end
section
variable {P : Program} {w : World} {K : PySem.W.Frag} {mg : Str → Option Value} {base : Heap} {a : Ad}
def sp_l_draw (_ : PySem.W.Frag) : Sp := fun vs H Q _ => ∃ (r : Addr) (q : Int), vs = [.ref r, .int q] ∧ Rg H r ∧ 0 < q ∧ q < 2 ^ 64 ∧ ∀ v H', 0 ≤ v → v < q → Kp r H H' → Rg H' r → Q (.int v) H'
theorem cell_at {ns : List Int} {i : Int} (h0 : 0 ≤ i) (h1 : i < (ns.length : Int)) : ∃ z, atI (ns.map V.int) i = some (V.int z) := by
  have e : i = ((i.toNat : Nat) : Int) := by omega
  have l : i.toNat < ns.length := by omega
  refine ⟨ns[i.toNat], ?_⟩
  have h : atI (ns.map V.int) ((i.toNat : Nat) : Int) = some (V.int ns[i.toNat]) := atI_nat (by simp [l])
  rw [← e] at h
  exact h
theorem div_ok {q : Int} (h : 0 < q) (h' : q < 2 ^ 64) (i : Int) : CDivW i q := wide_div (b := 64) h (by omega) (by decide) (by decide)

theorem ok_l_draw (T : Txt K mg a) : FnOk P w K mg base CX0 1 a.f_l_draw a.fd_l_draw ["_law_rng", "_law_quantity"] (sp_l_draw K) := by
  refine T.F_l_draw.ok sc_l_draw (fun vs H Q E h => ?_) (fun cdv A outer s H vs Q E hr h => ?_)
  · obtain ⟨r, q, rfl, _⟩ := h
    rfl
  · obtain ⟨r, q, rfl, ⟨c, ns, i, x, k, R⟩, q0, q1, w⟩ := h
    refine ⟨_, (C8.pss_cut (ps_if (PW.pt (pw_and (pt_cmpR op_eq (pe_ix ix_list (pv 0) pe_int (fun _ _ => rfl)) pe_int (nomark _)) (pw_and1 (pt_cmpR op_lt (pe_ix ix_list (pv 0) pe_int (fun _ _ => rfl)) (pe_callB call_len (by rfl) T.n_len (by decide +kernel) (pa_cons (pe_ix ix_list (pv 0) pe_int (fun _ _ => rfl)) pa_nil)) (nomark _))))) (pss_cons (ps_set (i := 2) sc_l_draw.nd rfl (by first | exact Or.inl rfl | exact Or.inr rfl) (pe_ix ix_list (pe_ix ix_list (pv 0) pe_int (fun _ _ => rfl)) (pe_ix ix_list (pv 0) pe_int (fun _ _ => rfl)) (fun _ _ => rfl)))
          (pss_cons (ps_asg (pe_op op_add (pe_ix ix_list (pv 0) pe_int (fun _ _ => rfl)) pe_int) (pg_sub (pv 0) pe_int set_list))
          (pss_one (ps_if (pt_cmpR op_ge (pv 2) (pe_op op_pow pe_int pe_int) (nomark _)) (pss_one (ps_asg (pv 2) (pg_sub (pv 0) pe_int set_list))) (pss_one (ps_asg (pe_op op_mod (pe_op op_add (pe_op op_add (pe_op op_mul (pe_ix ix_list (pv 0) pe_int (fun _ _ => rfl)) pe_int) (pe_op op_mul (pe_op op_mod (pv 2) pe_int) pe_int)) (pe_ix ix_list (pv 0) pe_int (fun _ _ => rfl))) pe_int) (pg_sub (pv 0) pe_int set_list))))))) pss_nil)
          (pss_cons (ps_if (pt_cmpR op_gt (pe_ix ix_list (pv 0) pe_int (fun _ _ => rfl)) pe_int (nomark _)) (pss_cons (ps_set (i := 3) sc_l_draw.nd rfl (by first | exact Or.inl rfl | exact Or.inr rfl) (pe_op op_mod (pe_ix ix_list (pv 0) pe_int (fun _ _ => rfl)) (pv 1)))
          (pss_cons (ps_asg (pe_op op_fdivW (pe_ix ix_list (pv 0) pe_int (fun _ _ => rfl)) (pv 1)) (pg_sub (pv 0) pe_int set_list))
          (pss_one (ps_ret (pv 3))))) pss_nil)
          (pss_cons (ps_set (i := 4) sc_l_draw.nd rfl (by first | exact Or.inl rfl | exact Or.inr rfl) (pe_ix ix_list (pv 0) pe_int (fun _ _ => rfl)))
          (pss_cons (ps_asg (pe_op op_mod (pe_op op_add (pe_op op_add (pe_op op_mul (pv 4) (pv 4)) (pe_op op_mul (pv 4) pe_int)) pe_int) pe_int) (pg_sub (pv 0) pe_int set_list))
          (pss_one (ps_ret (pe_op op_mod (pe_op op_add (pe_op op_fdivW (pe_ix ix_list (pv 0) pe_int (fun _ _ => rfl)) pe_int) (pe_op op_mul (pe_op op_mod (pe_ix ix_list (pv 0) pe_int (fun _ _ => rfl)) pe_int) pe_int)) (pv 1)))))))), ?_⟩
    have hR := R.hr
    have hC := R.hc
    have hk0 := R.k0
    have hk1 := R.k1
    have hi0 := R.i0
    refine ⟨fun σ H1 => ∃ y i1 x1 k1, σ = [some (.ref r), some (.int q), y, none, none] ∧ RgS H1 r c ns i1 x1 k1 ∧ Kp r H H1, ?_, ?_⟩
    · refine ⟨.ref r, rfl, r, _, 2, _, rfl, rfl, SqL.of hR, rfl, rfl, _, rfl, ite2 (fun e => ?_) (fun e => ?_)⟩
      · refine ⟨.ref r, rfl, r, _, 1, _, rfl, rfl, SqL.of hR, rfl, .ref r, rfl, r, _, 0, _, rfl, rfl, SqL.of hR, rfl, .ref c, ns.length, rfl, .inl ⟨_, SqL.of hC, by simp⟩, i, _, rfl, rfl, _, rfl, ite2 (fun e1 => ?_) (fun e1 => ?_)⟩
        · have l1 : i < (ns.length : Int) := of_decide_eq_true e1
          obtain ⟨z, hz⟩ := cell_at hi0 l1
          have hx : x = 0 := V.int.inj (of_decide_eq_true e)
          refine ⟨.ref r, rfl, r, _, 0, _, rfl, rfl, SqL.of hR, rfl, .ref r, rfl, r, _, 1, _, rfl, rfl, SqL.of hR, rfl, c, _, i, .int z, rfl, rfl, SqL.of hC, hz, ?_⟩
          refine ⟨.ref r, rfl, r, _, 1, _, rfl, rfl, SqL.of hR, rfl, i, 1, rfl, rfl, .ref r, rfl, r, _, 1, 1, rfl, rfl, hR, rfl, ?_⟩
          have R1 := R.set (i' := i + 1) (x' := x) (k' := k) (by omega) (by omega) R.x0 R.k0 R.k1
          refine ⟨.int z, rfl, 10, 18, rfl, rfl, ⟨by decide, by decide, by decide⟩, z, _, rfl, rfl, _, rfl, ite2 (fun e2 => ?_) (fun e2 => ?_)⟩
          · have hz2 : (10 : Int) ^ 18 ≤ z := of_decide_eq_true e2
            have R2 := R.set (i' := i + 1) (x' := z) (k' := k) (by omega) (by omega) (by omega) R.k0 R.k1
            refine ⟨.int z, rfl, .ref r, rfl, r, _, 2, 2, rfl, rfl, R1.hr, rfl, ?_⟩
            refine ⟨_, i + 1, z, k, rfl, ?_, ?_⟩
            · rw [upd_upd]; exact R2
            · rw [upd_upd]; exact Kp.at hR
          · refine ⟨.ref r, rfl, r, _, 3, _, rfl, rfl, SqL.of R1.hr, rfl, k, 40692, rfl, rfl, .inl ⟨by omega, by omega⟩, .int z, rfl, z, 2147483563, rfl, rfl, (show (0 : Int) < 2147483563 by decide), _, 71, rfl, rfl, .inr ⟨by decide, by decide⟩, _, _, rfl, rfl,
              .ref r, rfl, r, _, 1, _, rfl, rfl, SqL.of R1.hr, rfl, _, _, rfl, rfl, _, 2147483563, rfl, rfl, (show (0 : Int) < 2147483563 by decide), .ref r, rfl, r, _, 3, 3, rfl, rfl, R1.hr, rfl, ?_⟩
            have R2 := R.set (i' := i + 1) (x' := x) (k' := (k * 40692 + z % 2147483563 * 71 + (i + 1)) % 2147483563) (by omega) (by omega) (by omega) (by omega) (by omega)
            refine ⟨_, i + 1, x, (k * 40692 + z % 2147483563 * 71 + (i + 1)) % 2147483563, rfl, ?_, ?_⟩
            · rw [upd_upd]; exact R2
            · rw [upd_upd]; exact Kp.at hR
        · exact ⟨none, i, x, k, rfl, R, Kp.refl⟩
      · exact iteF ⟨none, i, x, k, rfl, R, Kp.refl⟩
    · rintro σ H1 ⟨y, i1, x1, k1, rfl, R1, kp⟩
      have hR1 := R1.hr
      have hk0 := R1.k0
      have hk1 := R1.k1
      have hx0 := R1.x0
      refine ⟨.ref r, rfl, r, _, 2, _, rfl, rfl, SqL.of hR1, rfl, x1, 0, rfl, rfl, _, rfl, ite2 (fun e => ?_) (fun e => ?_)⟩
      · refine ⟨.ref r, rfl, r, _, 2, _, rfl, rfl, SqL.of hR1, rfl, .int q, rfl, x1, q, rfl, rfl, q0, ?_⟩
        refine ⟨.ref r, rfl, r, _, 2, _, rfl, rfl, SqL.of hR1, rfl, .int q, rfl, x1, q, rfl, rfl, div_ok q0 q1 x1, .ref r, rfl, r, _, 2, 2, rfl, rfl, hR1, rfl, ?_⟩
        refine ⟨_, rfl, w _ _ (Int.emod_nonneg _ (by omega)) (Int.emod_lt_of_pos _ q0) (kp.trans (Kp.at hR1)) ⟨c, ns, i1, x1 / q, k1, R1.set R1.i0 R1.i1 (Int.ediv_nonneg hx0 (by omega)) hk0 hk1⟩⟩
      · refine ⟨.ref r, rfl, r, _, 3, _, rfl, rfl, SqL.of hR1, rfl, ?_⟩
        refine ⟨.int k1, rfl, .int k1, rfl, k1, k1, rfl, rfl, .inl ⟨by omega, by omega⟩, .int k1, rfl, k1, 39373, rfl, rfl, .inl ⟨by omega, by omega⟩, _, _, rfl, rfl, _, _, rfl, rfl, _, 2147483563, rfl, rfl, (show (0 : Int) < 2147483563 by decide), .ref r, rfl, r, _, 3, 3, rfl, rfl, hR1, rfl, ?_⟩
        have m0 : 0 ≤ (k1 * k1 + k1 * 39373 + 80021) % 2147483563 := Int.emod_nonneg _ (by decide)
        have m1 : (k1 * k1 + k1 * 39373 + 80021) % 2147483563 < 2147483563 := Int.emod_lt_of_pos _ (by decide)
        have R2 := R1.set (k' := (k1 * k1 + k1 * 39373 + 80021) % 2147483563) R1.i0 R1.i1 R1.x0 m0 m1
        refine ⟨.ref r, rfl, r, _, 3, _, rfl, rfl, SqL.of R2.hr, rfl, _, 61, rfl, rfl, ⟨by decide, by decide⟩, .ref r, rfl, r, _, 3, _, rfl, rfl, SqL.of R2.hr, rfl, _, 8123, rfl, rfl, (show (0 : Int) < 8123 by decide), _, 223, rfl, rfl, .inr ⟨by decide, by decide⟩, _, _, rfl, rfl, .int q, rfl, _, q, rfl, rfl, q0, ?_⟩
        exact w _ _ (Int.emod_nonneg _ (by omega)) (Int.emod_lt_of_pos _ q0) (kp.trans (Kp.at hR1)) ⟨c, ns, i1, x1, _, R2⟩
end
section
variable {P : Program} {w : World} {K : PySem.W.Frag} {mg : Str → Option Value} {base : Heap} {a : Ad}
/-- what may be chosen from: a list, a tuple, a text -/
def Pick (K : PySem.W.Frag) (H : Hp) (r : Addr) (v : V) (items : List V) : Prop := (∃ p, v = .ref p ∧ p ≠ r ∧ (SqL K H p items ∨ SqT K H p items)) ∨ ∃ z : Str, v = .str z ∧ items = z.cps.toList.map fun c => V.str ⟨#[c]⟩
def sp_l_choice (K : PySem.W.Frag) : Sp := fun vs H Q _ => ∃ (r : Addr) (v : V) (items : List V), vs = [.ref r, v] ∧ Rg H r ∧ Pick K H r v items ∧ 0 < items.length ∧ items.length ≤ 100000 ∧ ∀ x ∈ items, ∀ H', Kp r H H' → Rg H' r → Q x H'
theorem at_int {α : Type} {xs : List α} {i : Int} (h0 : 0 ≤ i) (h1 : i < (xs.length : Int)) : ∃ x, atI xs i = some x ∧ x ∈ xs := by
  have e : i = ((i.toNat : Nat) : Int) := by omega
  have l : i.toNat < xs.length := by omega
  refine ⟨xs[i.toNat], ?_, List.getElem_mem l⟩
  have h : atI xs ((i.toNat : Nat) : Int) = some xs[i.toNat] := atI_nat (by simp [l])
  rw [← e] at h
  exact h

theorem ok_l_choice (T : Txt K mg a) : FnOk P w K mg base CX0 2 a.f_l_choice a.fd_l_choice ["_law_rng", "_law_some"] (sp_l_choice K) := by
  have G_l_draw := ok_l_draw (P := P) (w := w) (base := base) T
  refine T.F_l_choice.ok sc_l_choice (fun vs H Q E h => ?_) (fun cdv A outer s H vs Q E hr h => ?_)
  · obtain ⟨r, v, items, rfl, _⟩ := h
    rfl
  · obtain ⟨r, v, items, rfl, R, pk, l0, l1, w⟩ := h
    refine ⟨_, (pss_one (ps_ret (pe_ix ix_seq (pv 1) (pe_call G_l_draw (hr.mono (by first | decide | omega)) (by rfl) T.g_l_draw T.F_l_draw.kp T.b_l_draw .nil pass0 (pa_cons (pv 0) (pa_cons (pe_callB call_len (by rfl) T.n_len (by decide +kernel) (pa_cons (pv 1) pa_nil)) pa_nil))) (fun _ _ => rfl)))), ?_⟩
    have n0 : (0 : Int) < (items.length : Int) := by omega
    have n1 : (items.length : Int) < 2 ^ 64 := by omega
    rcases pk with ⟨p, rfl, np, hp⟩ | ⟨z, rfl, hz⟩
    · refine ⟨.ref p, rfl, .ref r, rfl, .ref p, rfl, .ref p, items.length, rfl, ?_, r, _, rfl, R, n0, n1, fun j H' j0 j1 kp R' => ?_⟩
      · rcases hp with hp | hp
        · exact .inl ⟨_, hp, rfl⟩
        · exact .inr ⟨_, hp, rfl⟩
      · obtain ⟨x, hx, hm⟩ := at_int (xs := items) j0 j1
        rcases hp with hp | hp
        · exact .inl ⟨p, items, j, x, rfl, rfl, kp.L np hp, hx, w x hm H' kp R'⟩
        · exact .inr (.inl ⟨p, items, j, x, rfl, rfl, kp.T np hp, hx, w x hm H' kp R'⟩)
    · have hl : z.cps.toList.length = items.length := by rw [hz]; simp
      have hl2 : z.length = items.length := by rw [← hl]; simp [Str.length]
      refine ⟨.str z, rfl, .ref r, rfl, .str z, rfl, .str z, items.length, rfl, ⟨by rw [hl2]; exact sz l1, hl2.symm⟩, r, _, rfl, R, n0, n1, fun j H' j0 j1 kp R' => ?_⟩
      obtain ⟨c, hx, hm⟩ := at_int (xs := z.cps.toList) j0 (by rw [hl]; exact j1)
      exact .inr (.inr ⟨z, j, c, rfl, rfl, by rw [hl2]; exact sz l1, hx, w _ (by rw [hz]; exact List.mem_map.mpr ⟨c, hm, rfl⟩) H' kp R'⟩)
end
section
variable {P : Program} {w : World} {K : PySem.W.Frag} {mg : Str → Option Value} {base : Heap} {a : Ad}
def sp_l_shuffled (K : PySem.W.Frag) : Sp := fun vs H Q _ => ∃ (r p : Addr) (xs : List V), vs = [.ref r, .ref p] ∧ Rg H r ∧ p ≠ r ∧ SqL K H p xs ∧ xs.length ≤ 60 ∧ ∀ l H' ys, Kp r H H' → Rg H' r → H' l = some (.lst ys) → l ≠ r → ys.Perm xs → Q (.ref l) H'

theorem ok_l_shuffled (T : Txt K mg a) : FnOk P w K mg base CX0 2 a.f_l_shuffled a.fd_l_shuffled ["_law_rng", "_law_some"] (sp_l_shuffled K) := by
  have G_l_draw := ok_l_draw (P := P) (w := w) (base := base) T
  refine T.F_l_shuffled.ok sc_l_shuffled (fun vs H Q E h => ?_) (fun cdv A outer s H vs Q E hr h => ?_)
  · obtain ⟨r, p, xs, rfl, _⟩ := h
    rfl
  · obtain ⟨r, p, xs, rfl, R, pr, hS, hl, w⟩ := h
    refine ⟨_, (pss_cons (ps_set (i := 2) sc_l_shuffled.nd rfl (by first | exact Or.inl rfl | exact Or.inr rfl) (pe_lst pa_nil))
          (pss_cons (ps_for PassesOwn.never rfl (pi_list (pv 1)) (pg_name (i := 3) sc_l_shuffled.nd rfl (by first | exact Or.inl rfl | exact Or.inr rfl)) (pss_one (ps_expr (pe_bm PySem.F.plainAttrs_list PySem.F.slot_list_insert PySem.F.type_list_insert mt_insert (pv 2) (pa_cons (pe_call G_l_draw (hr.mono (by first | decide | omega)) (by rfl) T.g_l_draw T.F_l_draw.kp T.b_l_draw .nil pass0 (pa_cons (pv 0) (pa_cons (pe_op op_add (pe_callB call_len (by rfl) T.n_len (by decide +kernel) (pa_cons (pv 2) pa_nil)) pe_int) pa_nil))) (pa_cons (pv 3) pa_nil))))))
          (pss_one (ps_ret (pv 2))))), ?_⟩
    refine ⟨sz (by show 0 ≤ 100000; decide), fun l nl => ?_⟩
    have s0 := Same.new (o := .lst []) nl
    have lr : l ≠ r := R.ne nl
    refine ⟨.ref p, rfl, p, rfl, ⟨_, s0.seq hS⟩, for_list (K := K) (a := p) (xs := xs) (fun i σ H' => ∃ y, σ = [some (.ref r), some (.ref p), some (.ref l), y] ∧ Kp r H H' ∧ Rg H' r ∧ ∃ ys, H' l = some (.lst ys) ∧ ys.Perm (xs.take i)) ⟨none, rfl, Kp.of s0, R.same s0, [], upd_same, .nil⟩ (fun i σ H' _ ⟨_, _, k, _⟩ => k.L pr hS) ?_ ?_⟩
    · rintro i x σ H1 hx ⟨y, rfl, k1, R1, ys, hys, pm⟩
      have il : i < xs.length := (List.getElem?_eq_some_iff.mp hx).1
      have yl : ys.length = i := by rw [pm.length_eq, List.length_take]; omega
      refine ⟨.ref l, rfl, .inl ⟨rfl, _, SqL.of hys⟩, .ref r, rfl, .ref l, rfl, .ref l, ys.length, rfl, .inl ⟨_, SqL.of hys, rfl⟩, _, 1, rfl, rfl, r, _, rfl, R1, by omega, by omega, fun j H2 j0 j1 k2 R2 => ?_⟩
      have h2 := k2.1 _ _ lr hys
      refine ⟨x, rfl, l, ys, j, x, rfl, rfl, h2, by rw [yl]; exact szl (by omega), j0, by omega, ?_⟩
      have kk := k1.trans k2
      refine ⟨_, rfl, kk.put (H := H) nl lr, R.put nl kk R2, _, upd_same, ?_⟩
      rw [List.take_add_one, hx]
      have e1 : (ys.take j.toNat ++ [x] ++ ys.drop j.toNat).Perm (x :: ys) := by
        have e : (ys.take j.toNat ++ ([x] ++ ys.drop j.toNat)).Perm ([x] ++ (ys.take j.toNat ++ ys.drop j.toNat)) := by
          rw [← List.append_assoc, ← List.append_assoc]
          exact List.Perm.append_right _ List.perm_append_comm
        rw [List.take_append_drop] at e
        rw [List.append_assoc]
        exact e
      exact e1.trans ((List.Perm.cons x pm).trans (by
        have := List.perm_append_comm (l₁ := [x]) (l₂ := xs.take i)
        exact this))
    · rintro σ H1 ⟨y, rfl, k1, R1, ys, hys, pm⟩
      rw [List.take_length] at pm
      exact ⟨.ref l, rfl, w l H1 ys k1 R1 hys lr pm⟩
end
section
variable {P : Program} {w : World} {K : PySem.W.Frag} {mg : Str → Option Value} {base : Heap} {a : Ad}
/-- equal data of depth below n: True -/
def spEq (K : PySem.W.Frag) : Nat → Sp
  | 0 => fun _ _ _ _ => False
  | n + 1 => fun vs H Q _ => ∃ x y, vs = [x, y] ∧ Eqd K H n x y ∧ ∀ H', Same H H' → Q (.bl true) H'
def sp_l_equal (K : PySem.W.Frag) : Sp := spEq K 31

theorem ok_l_equal_n (T : Txt K mg a) : ∀ n, FnOk P w K mg base CX0 n a.f_l_equal a.fd_l_equal ["_law_result", "_law_expected"] (spEq K n)
  | 0 => fn_false
  | n + 1 => by
    have G_l_equal := ok_l_equal_n T n
    refine T.F_l_equal.ok sc_l_equal (fun vs H Q E h => ?_) (fun cdv A outer s H vs Q E hr h => ?_)
    · obtain ⟨x, y, rfl, _⟩ := h
      rfl
    obtain ⟨x, y, rfl, hE, w⟩ := h
    refine ⟨_, (pss_cons (ps_if (pt_cmpR op_isN (pv 1) pe_non (nomark _)) (pss_one (ps_ret (pe_cmpR op_isN (pv 0) pe_non (nomark _)))) pss_nil)
      (pss_cons (ps_if (PW.pt (pw_or (pt_val (pe_callB call_isi (by rfl) T.n_isinstance (by decide +kernel) (pa_cons (pv 1) (pa_cons (pe_bltn (v := .ty "list") (by rfl) T.n_list (by decide +kernel) rfl) pa_nil)))) (pw_or1 (pt_val (pe_callB call_isi (by rfl) T.n_isinstance (by decide +kernel) (pa_cons (pv 1) (pa_cons (pe_bltn (v := .ty "tuple") (by rfl) T.n_tuple (by decide +kernel) rfl) pa_nil))))))) (pss_cons (ps_if (PW.pt (pw_or (pt_cmpR op_ne (pe_callB call_isi (by rfl) T.n_isinstance (by decide +kernel) (pa_cons (pv 0) (pa_cons (pe_bltn (v := .ty "list") (by rfl) T.n_list (by decide +kernel) rfl) pa_nil))) (pe_callB call_isi (by rfl) T.n_isinstance (by decide +kernel) (pa_cons (pv 1) (pa_cons (pe_bltn (v := .ty "list") (by rfl) T.n_list (by decide +kernel) rfl) pa_nil))) (nomark _)) (pw_or1 (pt_cmpR op_ne (pe_callB call_isi (by rfl) T.n_isinstance (by decide +kernel) (pa_cons (pv 0) (pa_cons (pe_bltn (v := .ty "tuple") (by rfl) T.n_tuple (by decide +kernel) rfl) pa_nil))) (pe_callB call_isi (by rfl) T.n_isinstance (by decide +kernel) (pa_cons (pv 1) (pa_cons (pe_bltn (v := .ty "tuple") (by rfl) T.n_tuple (by decide +kernel) rfl) pa_nil))) (nomark _))))) (pss_one (ps_ret pe_bl)) pss_nil)
      (pss_one (ps_ret (pe_and (pe_cmpR op_eq (pe_callB call_len (by rfl) T.n_len (by decide +kernel) (pa_cons (pv 0) pa_nil)) (pe_callB call_len (by rfl) T.n_len (by decide +kernel) (pa_cons (pv 1) pa_nil)) (nomark _)) (pe_one (pe_callB (cr_all rfl) (by rfl) T.n_all (by decide +kernel) (pa_cons (pe_lc (own := [("_law_one", 2), ("_law_other", 3)]) (g := gTup K 2 (gCons (gName 2) (gCons (gName 3) gNil))) rfl sc_l_equal.nd (RZ.pi_zipA (by rfl) T.n_zip (pa_cons (pv 0) (pa_cons (pv 1) pa_nil))) (blkOk_by (own := [("_law_one", 2), ("_law_other", 3)]) (N := ["_law_result", "_law_expected", "_law_one", "_law_other"]) (sc := defScope s_l_equal) (by decide +kernel)) (fun _ _ _ _ _ => (pg_tup rfl (pgs_cons (pg_name (i := 2) sc_l_equal.nd rfl (Or.inl rfl)) (pgs_cons (pg_name (i := 3) sc_l_equal.nd rfl (Or.inl rfl)) pgs_nil)))) (fun _ _ _ _ _ => pts_nil) (fun _ _ _ _ _ => (pe_call G_l_equal (hr.mono (by first | decide | omega)) (by rfl) T.g_l_equal T.F_l_equal.kp T.b_l_equal .nil pass0 (pa_cons (pv 2) (pa_cons (pv 3) pa_nil))))) pa_nil))))))) pss_nil)
      (pss_cons (ps_if (PW.pt (pw_or (pt_cmpR op_ne (pe_callB call_isi (by rfl) T.n_isinstance (by decide +kernel) (pa_cons (pv 1) (pa_cons (pe_bltn (v := .ty "bool") (by rfl) T.n_bool (by decide +kernel) rfl) pa_nil))) (pe_callB call_isi (by rfl) T.n_isinstance (by decide +kernel) (pa_cons (pv 0) (pa_cons (pe_bltn (v := .ty "bool") (by rfl) T.n_bool (by decide +kernel) rfl) pa_nil))) (nomark _)) (pw_or1 (pt_cmpR op_ne (pe_callB call_isi (by rfl) T.n_isinstance (by decide +kernel) (pa_cons (pv 1) (pa_cons (pe_bltn (v := .ty "int") (by rfl) T.n_int (by decide +kernel) rfl) pa_nil))) (pe_callB call_isi (by rfl) T.n_isinstance (by decide +kernel) (pa_cons (pv 0) (pa_cons (pe_bltn (v := .ty "int") (by rfl) T.n_int (by decide +kernel) rfl) pa_nil))) (nomark _))))) (pss_one (ps_ret pe_bl)) pss_nil)
      (pss_one (ps_ret (pe_and (pe_cmpR op_eq (pe_callB call_isi (by rfl) T.n_isinstance (by decide +kernel) (pa_cons (pv 0) (pa_cons (pe_bltn (v := .ty "str") (by rfl) T.n_str (by decide +kernel) rfl) pa_nil))) (pe_callB call_isi (by rfl) T.n_isinstance (by decide +kernel) (pa_cons (pv 1) (pa_cons (pe_bltn (v := .ty "str") (by rfl) T.n_str (by decide +kernel) rfl) pa_nil))) (nomark _)) (pe_one (pe_cmpR op_eq (pv 0) (pv 1) (nomark _))))))))), ?_⟩
    by_cases hq : x = y ∧ atom x = true
    · obtain ⟨rfl, hat⟩ := hq
      by_cases hn : x = .non
      · subst hn
        exact ⟨.non, rfl, rfl, _, rfl, ifT (decide_eq_true rfl) ⟨.non, rfl, rfl, by rw [decide_eq_true rfl]; exact w H (Same.refl H)⟩⟩
      · obtain ⟨t, b1, b2, b3, ty, hl, ht, bb, bi, bs, sc⟩ : ∃ (t : String) (b1 b2 b3 : Bool), TyX K H x (.type t) ∧ kitB t "list" = some false ∧ kitB t "tuple" = some false ∧ kitB t "bool" = some b1 ∧ kitB t "int" = some b2 ∧ kitB t "str" = some b3 ∧ scal x x = true := by
          cases x with
          | non => exact absurd rfl hn
          | bl b => exact ⟨"bool", true, true, false, .base (.bl b), by decide +kernel, by decide +kernel, by decide +kernel, by decide +kernel, by decide +kernel, rfl⟩
          | int i => exact ⟨"int", false, true, false, .base (.int i), by decide +kernel, by decide +kernel, by decide +kernel, by decide +kernel, by decide +kernel, rfl⟩
          | str z => exact ⟨"str", false, false, true, .base (.str z), by decide +kernel, by decide +kernel, by decide +kernel, by decide +kernel, by decide +kernel, rfl⟩
          | _ => cases hat
        refine ⟨x, rfl, rfl, _, rfl, ifF (decide_eq_false hn) ?_⟩
        refine ⟨x, rfl, _, _, _, _, _, rfl, .ty _, ty, kit_ty hl, false, rfl, iteF ⟨x, rfl, _, _, _, _, _, rfl, .ty _, ty, kit_ty ht, false, rfl, iteF ?_⟩⟩
        refine ⟨x, rfl, _, _, _, _, _, rfl, .ty _, ty, kit_ty bb, x, rfl, _, _, _, _, _, rfl, .ty _, ty, kit_ty bb, rfl, _, rfl, iteNS rfl ⟨x, rfl, _, _, _, _, _, rfl, .ty _, ty, kit_ty bi, x, rfl, _, _, _, _, _, rfl, .ty _, ty, kit_ty bi, rfl, _, rfl, iteNS rfl ?_⟩⟩
        refine ⟨x, rfl, _, _, _, _, _, rfl, .ty _, ty, kit_ty bs, x, rfl, _, _, _, _, _, rfl, .ty _, ty, kit_ty bs, rfl, _, rfl, ifT (decide_eq_true rfl) ⟨x, rfl, x, rfl, sc, ?_⟩⟩
        rw [decide_eq_true rfl]
        exact w H (Same.refl H)
    cases n with
    | zero => exact absurd hE hq
    | succ n =>
      rcases hE with hE | ⟨p, q, xs, ys, rfl, rfl, hS, hl, hl2, hk⟩
      · exact absurd hE hq
      have nn : ∀ q : Addr, decide (V.ref q = V.non) = false := fun q => decide_eq_false (fun z => nomatch z)
      refine ⟨.ref q, rfl, rfl, _, rfl, ifF (nn q) ?_⟩
      -- one turn of the comprehension, for lists and for tuples alike
      have turn : ∀ (D : Addr) (H1 : Hp) (i : Nat) (u v : V) (N : Hp → Prop), H D = none → Same H H1 → H1 D = some (.lst ((List.replicate i true).map V.bl)) → i < xs.length → xs[i]? = some u → ys[i]? = some v →
          (∀ H2, Same H H2 → H2 D = some (.lst ((List.replicate (i + 1) true).map V.bl)) → N H2) → spEq K (n + 1) [u, v] H1 (fun y H4 => ∃ acc, H4 D = some (.lst acc) ∧ acc.length < sizeLine ∧ N (upd H4 D (.lst (acc ++ [y])))) E0 := by
        intro D H1 i u v N nD s1 hD hi hu hv hN
        refine ⟨u, v, rfl, (hk i u v hu hv).same s1, fun H4 s4 => ⟨_, s4 _ _ hD, by rw [List.length_map, List.length_replicate]; exact szl (by omega), hN _ (fun b o e => ?_) ?_⟩⟩
        · rw [upd_ne (ne_of_none e nD)]
          exact s4 _ _ (s1 _ _ e)
        · rw [upd_same, List.replicate_succ', List.map_append]
          rfl
      have fin : ∀ (D : Addr) (H1 : Hp), Same H H1 → H1 D = some (.lst ((List.replicate xs.length true).map V.bl)) → rAll K [V.ref D] H1 Q := fun D H1 s1 hD =>
        ⟨D, List.replicate xs.length true, rfl, SqL.of hD, by
          rw [show (List.replicate xs.length true).all id = true by simp]
          exact w H1 s1⟩
      rcases hS with ⟨ha, hb⟩ | ⟨ha, hb⟩
      · refine ⟨.ref q, rfl, _, _, _, _, true, rfl, .ty _, tyL hb, kit_ty (by decide +kernel), true, rfl, iteT (iteT ?_)⟩
        refine ⟨.ref p, rfl, _, _, _, _, true, rfl, .ty _, tyL ha, kit_ty (by decide +kernel), .ref q, rfl, _, _, _, _, true, rfl, .ty _, tyL hb, kit_ty (by decide +kernel), rfl, _, rfl, iteNS rfl ?_⟩
        refine ⟨.ref p, rfl, _, _, _, _, false, rfl, .ty _, tyL ha, kit_ty (by decide +kernel), .ref q, rfl, _, _, _, _, false, rfl, .ty _, tyL hb, kit_ty (by decide +kernel), rfl, _, rfl, iteNS rfl ?_⟩
        refine ⟨.ref p, rfl, .ref p, xs.length, rfl, .inl ⟨_, ha, rfl⟩, .ref q, rfl, .ref q, ys.length, rfl, .inl ⟨_, hb, rfl⟩, rfl, _, rfl, ifT (decide_eq_true (by rw [hl])) ?_⟩
        refine ⟨.ref p, rfl, .ref q, rfl, p, q, xs, ys, rfl, .inl ⟨ha, hb, fun D nD => ?_⟩⟩
        refine ⟨fun i m H1 => i + m = xs.length ∧ Same H H1 ∧ H1 D = some (.lst ((List.replicate i true).map V.bl)), ⟨xs.length, by omega, Same.new nD, upd_same⟩, fun i m H1 hW => ?_⟩
        obtain ⟨em, s1, hD⟩ := hW
        by_cases hi : i < xs.length
        · refine .inr ⟨⟨xs, ys, xs[i], ys[i]'(by omega), s1.seq ha, s1.seq hb, List.getElem?_eq_getElem hi, List.getElem?_eq_getElem (by omega)⟩, fun H2 => Same H H2 ∧ H2 D = some (.lst ((List.replicate (i + 1) true).map V.bl)), fun H2 hN => ⟨m - 1, by omega, by omega, hN.1, hN.2⟩, fun v H2 hy => ?_⟩
          obtain ⟨tt, u1, u2, rfl, nT, rfl, f1, f2⟩ := hy
          refine ⟨tt, [u1, u2], rfl, SqT.of upd_same, rfl, u1, [u2], rfl, u2, [], rfl, rfl, rfl, ?_⟩
          refine tYes_if ?_
          refine ⟨u1, rfl, u2, rfl, turn D (upd H1 tt (.tup [u1, u2])) i u1 u2 (fun H2 => Same H H2 ∧ H2 D = some (.lst ((List.replicate (i + 1) true).map V.bl))) nD (s1.trans (Same.new nT)) ?_ hi (f1 _ (s1.seq ha)) (f2 _ (s1.seq hb)) fun H2 a b => ⟨a, b⟩⟩
          rw [upd_ne (ne_of_none hD nT)]
          exact hD
        · have ei : i = xs.length := by omega
          subst ei
          exact .inl ⟨⟨xs, ys, s1.seq ha, s1.seq hb, .inl (Nat.le_refl _)⟩, fin D H1 s1 hD⟩
      · refine ⟨.ref q, rfl, _, _, _, _, false, rfl, .ty _, tyT hb, kit_ty (by decide +kernel), false, rfl, iteF ⟨.ref q, rfl, _, _, _, _, true, rfl, .ty _, tyT hb, kit_ty (by decide +kernel), true, rfl, iteT ?_⟩⟩
        refine ⟨.ref p, rfl, _, _, _, _, false, rfl, .ty _, tyT ha, kit_ty (by decide +kernel), .ref q, rfl, _, _, _, _, false, rfl, .ty _, tyT hb, kit_ty (by decide +kernel), rfl, _, rfl, iteNS rfl ?_⟩
        refine ⟨.ref p, rfl, _, _, _, _, true, rfl, .ty _, tyT ha, kit_ty (by decide +kernel), .ref q, rfl, _, _, _, _, true, rfl, .ty _, tyT hb, kit_ty (by decide +kernel), rfl, _, rfl, iteNS rfl ?_⟩
        refine ⟨.ref p, rfl, .ref p, xs.length, rfl, .inr ⟨_, ha, rfl⟩, .ref q, rfl, .ref q, ys.length, rfl, .inr ⟨_, hb, rfl⟩, rfl, _, rfl, ifT (decide_eq_true (by rw [hl])) ?_⟩
        refine ⟨.ref p, rfl, .ref q, rfl, p, q, xs, ys, rfl, .inr ⟨ha, hb, fun D nD => ?_⟩⟩
        refine ⟨fun i m H1 => i + m = xs.length ∧ Same H H1 ∧ H1 D = some (.lst ((List.replicate i true).map V.bl)), ⟨xs.length, by omega, Same.new nD, upd_same⟩, fun i m H1 hW => ?_⟩
        obtain ⟨em, s1, hD⟩ := hW
        by_cases hi : i < xs.length
        · refine .inr ⟨⟨xs, ys, xs[i], ys[i]'(by omega), Same.T s1 ha, Same.T s1 hb, List.getElem?_eq_getElem hi, List.getElem?_eq_getElem (by omega)⟩, fun H2 => Same H H2 ∧ H2 D = some (.lst ((List.replicate (i + 1) true).map V.bl)), fun H2 hN => ⟨m - 1, by omega, by omega, hN.1, hN.2⟩, fun v H2 hy => ?_⟩
          obtain ⟨tt, u1, u2, rfl, nT, rfl, f1, f2⟩ := hy
          refine ⟨tt, [u1, u2], rfl, SqT.of upd_same, rfl, u1, [u2], rfl, u2, [], rfl, rfl, rfl, ?_⟩
          refine tYes_if ?_
          refine ⟨u1, rfl, u2, rfl, turn D (upd H1 tt (.tup [u1, u2])) i u1 u2 (fun H2 => Same H H2 ∧ H2 D = some (.lst ((List.replicate (i + 1) true).map V.bl))) nD (s1.trans (Same.new nT)) ?_ hi (f1 _ (Same.T s1 ha)) (f2 _ (Same.T s1 hb)) fun H2 a b => ⟨a, b⟩⟩
          rw [upd_ne (ne_of_none hD nT)]
          exact hD
        · have ei : i = xs.length := by omega
          subst ei
          exact .inl ⟨⟨xs, ys, Same.T s1 ha, Same.T s1 hb, .inl (Nat.le_refl _)⟩, fin D H1 s1 hD⟩
theorem ok_l_equal (T : Txt K mg a) : FnOk P w K mg base CX0 31 a.f_l_equal a.fd_l_equal ["_law_result", "_law_expected"] (sp_l_equal K) := ok_l_equal_n T 31
end
section
variable {P : Program} {w : World} {K : PySem.W.Frag} {mg : Str → Option Value} {base : Heap} {a : Ad}
def sp_l_error_field (K : PySem.W.Frag) : Sp := fun vs H Q _ => ∃ (x C dd : Addr) (fs : List (Str × V)) (tag : Str) (v : V), vs = [.ref x] ∧ H x = some (TrT.exq x (.ref C) (some dd)) ∧ H dd = some (.xd fs) ∧ fs.lookup ("tag" : Str) = some (.str tag) ∧ XfC K C ∧ PySem.W.findIn K (.ref C) "tag" = some none ∧ FldOf K C fs tag v ∧ ∀ H', Same H H' → Q v H'
theorem all_flat : ∀ l : List Str, (l.map V.str).all flatV = true := flat_strs

theorem oks_l_error_field (T : Txt K mg a) : LmN.FnS P w K mg base 1 a.f_l_error_field a.fd_l_error_field ["_law_e"] (sp_l_error_field K) := by
  refine LmN.fnS_of T.F_l_error_field sc_l_error_field (fun vs H Q E h => ?_) (fun cdv A outer s H vs Q p hr h => ?_)
  · obtain ⟨x, C, dd, fs, tag, v, rfl, _⟩ := h
    rfl
  obtain ⟨x, C, dd, fs, tag, v, rfl, hx, hd, hl, xf, n1, fo, w⟩ := h
  refine ⟨_, (pss_cons (ps_if (pt_cmpR op_in_seq (TrT.pe_xq (pv 0)) (pe_tup (pa_cons pe_str (pa_cons pe_str (pa_cons pe_str (pa_cons pe_str (pa_cons pe_str (pa_cons pe_str (pa_cons pe_str (pa_cons pe_str pa_nil))))))))) (by rfl)) (pss_one (ps_ret (TrT.pe_xq (pv 0)))) pss_nil)
      (pss_cons (ps_if (pt_cmpR op_in_seq (TrT.pe_xq (pv 0)) (pe_tup (pa_cons pe_str (pa_cons pe_str pa_nil))) (by rfl)) (pss_one (ps_ret (TrT.pe_xq (pv 0)))) pss_nil)
      (pss_cons (ps_if (pt_cmpR op_in_seq (TrT.pe_xq (pv 0)) (pe_tup (pa_cons pe_str (pa_cons pe_str pa_nil))) (by rfl)) (pss_one (ps_ret (TrT.pe_xq (pv 0)))) pss_nil)
      (pss_cons (ps_if (pt_cmpR op_in_seq (TrT.pe_xq (pv 0)) (pe_tup (pa_cons pe_str (pa_cons pe_str pa_nil))) (by rfl)) (pss_one (ps_ret (pe_ifExp (pt_cmpR op_eq (TrT.pe_xq (pv 0)) pe_str (nomark _)) (TrT.pe_xq (pv 0)) (TrT.pe_xq (pv 0))))) pss_nil)
      (pss_one (ps_ret (pe_ifExp (pt_cmpR op_eq (TrT.pe_xq (pv 0)) pe_str (nomark _)) (TrT.pe_xq (pv 0)) pe_non))))))), ?_⟩
  have rd : ∀ H', Same H H' → H' x = some (TrT.exq x (.ref C) (some dd)) ∧ H' dd = some (.xd fs) := fun H' s => ⟨s _ _ hx, s _ _ hd⟩
  rcases fo with ⟨fld, hm, hv, n2⟩ | ⟨hm, rfl⟩
  rotate_left
  · simp only [nfTab, List.mem_cons, List.not_mem_nil, or_false] at hm
    rcases hm with rfl | rfl
    · -- NameMismatch
      refine ⟨.ref x, rfl, x, C, dd, fs, _, rfl, (rd _ (Same.refl H)).1, (rd _ (Same.refl H)).2, hl, xf, n1, sz (by show 8 ≤ 100000; decide), fun q0 nq0 => ?_⟩
      have s0 := ((Same.refl H)).trans (Same.new (o := .tup [.str "InvalidTerm", .str "InvalidName", .str "TermTooLarge", .str "DuplicateName", .str "SystemInUse", .str "UnknownEvent", .str "UnknownSystem", .str "UnknownRun"]) nq0)
      refine ⟨q0, _, rfl, .inr (SqT.of upd_same), rfl, rfl, _, rfl, ifF (by decide +kernel) ?_⟩
      refine ⟨.ref x, rfl, x, C, dd, fs, _, rfl, (rd _ s0).1, (rd _ s0).2, hl, xf, n1, sz (by show 2 ≤ 100000; decide), fun q1 nq1 => ?_⟩
      have s1 := (s0).trans (Same.new (o := .tup [.str "InvalidRound", .str "InvalidLimit"]) nq1)
      refine ⟨q1, _, rfl, .inr (SqT.of upd_same), rfl, rfl, _, rfl, ifF (by decide +kernel) ?_⟩
      refine ⟨.ref x, rfl, x, C, dd, fs, _, rfl, (rd _ s1).1, (rd _ s1).2, hl, xf, n1, sz (by show 2 ≤ 100000; decide), fun q2 nq2 => ?_⟩
      have s2 := (s1).trans (Same.new (o := .tup [.str "InvalidShape", .str "ParseError"]) nq2)
      refine ⟨q2, _, rfl, .inr (SqT.of upd_same), rfl, rfl, _, rfl, ifF (by decide +kernel) ?_⟩
      refine ⟨.ref x, rfl, x, C, dd, fs, _, rfl, (rd _ s2).1, (rd _ s2).2, hl, xf, n1, sz (by show 2 ≤ 100000; decide), fun q3 nq3 => ?_⟩
      have s3 := (s2).trans (Same.new (o := .tup [.str "CapacityExceeded", .str "InvalidCount"]) nq3)
      refine ⟨q3, _, rfl, .inr (SqT.of upd_same), rfl, rfl, _, rfl, ifF (by decide +kernel) ?_⟩
      exact ⟨.ref x, rfl, x, C, dd, fs, _, rfl, (rd _ s3).1, (rd _ s3).2, hl, xf, n1, rfl, _, rfl, ifF (by decide +kernel) (w _ s3)⟩
    · -- InvalidTimes
      refine ⟨.ref x, rfl, x, C, dd, fs, _, rfl, (rd _ (Same.refl H)).1, (rd _ (Same.refl H)).2, hl, xf, n1, sz (by show 8 ≤ 100000; decide), fun q0 nq0 => ?_⟩
      have s0 := ((Same.refl H)).trans (Same.new (o := .tup [.str "InvalidTerm", .str "InvalidName", .str "TermTooLarge", .str "DuplicateName", .str "SystemInUse", .str "UnknownEvent", .str "UnknownSystem", .str "UnknownRun"]) nq0)
      refine ⟨q0, _, rfl, .inr (SqT.of upd_same), rfl, rfl, _, rfl, ifF (by decide +kernel) ?_⟩
      refine ⟨.ref x, rfl, x, C, dd, fs, _, rfl, (rd _ s0).1, (rd _ s0).2, hl, xf, n1, sz (by show 2 ≤ 100000; decide), fun q1 nq1 => ?_⟩
      have s1 := (s0).trans (Same.new (o := .tup [.str "InvalidRound", .str "InvalidLimit"]) nq1)
      refine ⟨q1, _, rfl, .inr (SqT.of upd_same), rfl, rfl, _, rfl, ifF (by decide +kernel) ?_⟩
      refine ⟨.ref x, rfl, x, C, dd, fs, _, rfl, (rd _ s1).1, (rd _ s1).2, hl, xf, n1, sz (by show 2 ≤ 100000; decide), fun q2 nq2 => ?_⟩
      have s2 := (s1).trans (Same.new (o := .tup [.str "InvalidShape", .str "ParseError"]) nq2)
      refine ⟨q2, _, rfl, .inr (SqT.of upd_same), rfl, rfl, _, rfl, ifF (by decide +kernel) ?_⟩
      refine ⟨.ref x, rfl, x, C, dd, fs, _, rfl, (rd _ s2).1, (rd _ s2).2, hl, xf, n1, sz (by show 2 ≤ 100000; decide), fun q3 nq3 => ?_⟩
      have s3 := (s2).trans (Same.new (o := .tup [.str "CapacityExceeded", .str "InvalidCount"]) nq3)
      refine ⟨q3, _, rfl, .inr (SqT.of upd_same), rfl, rfl, _, rfl, ifF (by decide +kernel) ?_⟩
      exact ⟨.ref x, rfl, x, C, dd, fs, _, rfl, (rd _ s3).1, (rd _ s3).2, hl, xf, n1, rfl, _, rfl, ifF (by decide +kernel) (w _ s3)⟩
  simp only [efTab, List.mem_cons, List.not_mem_nil, or_false, Prod.mk.injEq] at hm
  rcases hm with ⟨rfl, rfl⟩ | ⟨rfl, rfl⟩ | ⟨rfl, rfl⟩ | ⟨rfl, rfl⟩ | ⟨rfl, rfl⟩ | ⟨rfl, rfl⟩ | ⟨rfl, rfl⟩ | ⟨rfl, rfl⟩ | ⟨rfl, rfl⟩ | ⟨rfl, rfl⟩ | ⟨rfl, rfl⟩ | ⟨rfl, rfl⟩ | ⟨rfl, rfl⟩ | ⟨rfl, rfl⟩ | ⟨rfl, rfl⟩
  · -- InvalidTerm
    refine ⟨.ref x, rfl, x, C, dd, fs, _, rfl, (rd _ (Same.refl H)).1, (rd _ (Same.refl H)).2, hl, xf, n1, sz (by show 8 ≤ 100000; decide), fun q0 nq0 => ?_⟩
    have s0 := ((Same.refl H)).trans (Same.new (o := .tup [.str "InvalidTerm", .str "InvalidName", .str "TermTooLarge", .str "DuplicateName", .str "SystemInUse", .str "UnknownEvent", .str "UnknownSystem", .str "UnknownRun"]) nq0)
    refine ⟨q0, _, rfl, .inr (SqT.of upd_same), rfl, rfl, _, rfl, ifT (by decide +kernel) ?_⟩
    exact ⟨.ref x, rfl, x, C, dd, fs, _, rfl, (rd _ s0).1, (rd _ s0).2, hv, xf, n2, w _ s0⟩
  · -- InvalidName
    refine ⟨.ref x, rfl, x, C, dd, fs, _, rfl, (rd _ (Same.refl H)).1, (rd _ (Same.refl H)).2, hl, xf, n1, sz (by show 8 ≤ 100000; decide), fun q0 nq0 => ?_⟩
    have s0 := ((Same.refl H)).trans (Same.new (o := .tup [.str "InvalidTerm", .str "InvalidName", .str "TermTooLarge", .str "DuplicateName", .str "SystemInUse", .str "UnknownEvent", .str "UnknownSystem", .str "UnknownRun"]) nq0)
    refine ⟨q0, _, rfl, .inr (SqT.of upd_same), rfl, rfl, _, rfl, ifT (by decide +kernel) ?_⟩
    exact ⟨.ref x, rfl, x, C, dd, fs, _, rfl, (rd _ s0).1, (rd _ s0).2, hv, xf, n2, w _ s0⟩
  · -- TermTooLarge
    refine ⟨.ref x, rfl, x, C, dd, fs, _, rfl, (rd _ (Same.refl H)).1, (rd _ (Same.refl H)).2, hl, xf, n1, sz (by show 8 ≤ 100000; decide), fun q0 nq0 => ?_⟩
    have s0 := ((Same.refl H)).trans (Same.new (o := .tup [.str "InvalidTerm", .str "InvalidName", .str "TermTooLarge", .str "DuplicateName", .str "SystemInUse", .str "UnknownEvent", .str "UnknownSystem", .str "UnknownRun"]) nq0)
    refine ⟨q0, _, rfl, .inr (SqT.of upd_same), rfl, rfl, _, rfl, ifT (by decide +kernel) ?_⟩
    exact ⟨.ref x, rfl, x, C, dd, fs, _, rfl, (rd _ s0).1, (rd _ s0).2, hv, xf, n2, w _ s0⟩
  · -- DuplicateName
    refine ⟨.ref x, rfl, x, C, dd, fs, _, rfl, (rd _ (Same.refl H)).1, (rd _ (Same.refl H)).2, hl, xf, n1, sz (by show 8 ≤ 100000; decide), fun q0 nq0 => ?_⟩
    have s0 := ((Same.refl H)).trans (Same.new (o := .tup [.str "InvalidTerm", .str "InvalidName", .str "TermTooLarge", .str "DuplicateName", .str "SystemInUse", .str "UnknownEvent", .str "UnknownSystem", .str "UnknownRun"]) nq0)
    refine ⟨q0, _, rfl, .inr (SqT.of upd_same), rfl, rfl, _, rfl, ifT (by decide +kernel) ?_⟩
    exact ⟨.ref x, rfl, x, C, dd, fs, _, rfl, (rd _ s0).1, (rd _ s0).2, hv, xf, n2, w _ s0⟩
  · -- SystemInUse
    refine ⟨.ref x, rfl, x, C, dd, fs, _, rfl, (rd _ (Same.refl H)).1, (rd _ (Same.refl H)).2, hl, xf, n1, sz (by show 8 ≤ 100000; decide), fun q0 nq0 => ?_⟩
    have s0 := ((Same.refl H)).trans (Same.new (o := .tup [.str "InvalidTerm", .str "InvalidName", .str "TermTooLarge", .str "DuplicateName", .str "SystemInUse", .str "UnknownEvent", .str "UnknownSystem", .str "UnknownRun"]) nq0)
    refine ⟨q0, _, rfl, .inr (SqT.of upd_same), rfl, rfl, _, rfl, ifT (by decide +kernel) ?_⟩
    exact ⟨.ref x, rfl, x, C, dd, fs, _, rfl, (rd _ s0).1, (rd _ s0).2, hv, xf, n2, w _ s0⟩
  · -- UnknownEvent
    refine ⟨.ref x, rfl, x, C, dd, fs, _, rfl, (rd _ (Same.refl H)).1, (rd _ (Same.refl H)).2, hl, xf, n1, sz (by show 8 ≤ 100000; decide), fun q0 nq0 => ?_⟩
    have s0 := ((Same.refl H)).trans (Same.new (o := .tup [.str "InvalidTerm", .str "InvalidName", .str "TermTooLarge", .str "DuplicateName", .str "SystemInUse", .str "UnknownEvent", .str "UnknownSystem", .str "UnknownRun"]) nq0)
    refine ⟨q0, _, rfl, .inr (SqT.of upd_same), rfl, rfl, _, rfl, ifT (by decide +kernel) ?_⟩
    exact ⟨.ref x, rfl, x, C, dd, fs, _, rfl, (rd _ s0).1, (rd _ s0).2, hv, xf, n2, w _ s0⟩
  · -- UnknownSystem
    refine ⟨.ref x, rfl, x, C, dd, fs, _, rfl, (rd _ (Same.refl H)).1, (rd _ (Same.refl H)).2, hl, xf, n1, sz (by show 8 ≤ 100000; decide), fun q0 nq0 => ?_⟩
    have s0 := ((Same.refl H)).trans (Same.new (o := .tup [.str "InvalidTerm", .str "InvalidName", .str "TermTooLarge", .str "DuplicateName", .str "SystemInUse", .str "UnknownEvent", .str "UnknownSystem", .str "UnknownRun"]) nq0)
    refine ⟨q0, _, rfl, .inr (SqT.of upd_same), rfl, rfl, _, rfl, ifT (by decide +kernel) ?_⟩
    exact ⟨.ref x, rfl, x, C, dd, fs, _, rfl, (rd _ s0).1, (rd _ s0).2, hv, xf, n2, w _ s0⟩
  · -- UnknownRun
    refine ⟨.ref x, rfl, x, C, dd, fs, _, rfl, (rd _ (Same.refl H)).1, (rd _ (Same.refl H)).2, hl, xf, n1, sz (by show 8 ≤ 100000; decide), fun q0 nq0 => ?_⟩
    have s0 := ((Same.refl H)).trans (Same.new (o := .tup [.str "InvalidTerm", .str "InvalidName", .str "TermTooLarge", .str "DuplicateName", .str "SystemInUse", .str "UnknownEvent", .str "UnknownSystem", .str "UnknownRun"]) nq0)
    refine ⟨q0, _, rfl, .inr (SqT.of upd_same), rfl, rfl, _, rfl, ifT (by decide +kernel) ?_⟩
    exact ⟨.ref x, rfl, x, C, dd, fs, _, rfl, (rd _ s0).1, (rd _ s0).2, hv, xf, n2, w _ s0⟩
  · -- InvalidRound
    refine ⟨.ref x, rfl, x, C, dd, fs, _, rfl, (rd _ (Same.refl H)).1, (rd _ (Same.refl H)).2, hl, xf, n1, sz (by show 8 ≤ 100000; decide), fun q0 nq0 => ?_⟩
    have s0 := ((Same.refl H)).trans (Same.new (o := .tup [.str "InvalidTerm", .str "InvalidName", .str "TermTooLarge", .str "DuplicateName", .str "SystemInUse", .str "UnknownEvent", .str "UnknownSystem", .str "UnknownRun"]) nq0)
    refine ⟨q0, _, rfl, .inr (SqT.of upd_same), rfl, rfl, _, rfl, ifF (by decide +kernel) ?_⟩
    refine ⟨.ref x, rfl, x, C, dd, fs, _, rfl, (rd _ s0).1, (rd _ s0).2, hl, xf, n1, sz (by show 2 ≤ 100000; decide), fun q1 nq1 => ?_⟩
    have s1 := (s0).trans (Same.new (o := .tup [.str "InvalidRound", .str "InvalidLimit"]) nq1)
    refine ⟨q1, _, rfl, .inr (SqT.of upd_same), rfl, rfl, _, rfl, ifT (by decide +kernel) ?_⟩
    exact ⟨.ref x, rfl, x, C, dd, fs, _, rfl, (rd _ s1).1, (rd _ s1).2, hv, xf, n2, w _ s1⟩
  · -- InvalidLimit
    refine ⟨.ref x, rfl, x, C, dd, fs, _, rfl, (rd _ (Same.refl H)).1, (rd _ (Same.refl H)).2, hl, xf, n1, sz (by show 8 ≤ 100000; decide), fun q0 nq0 => ?_⟩
    have s0 := ((Same.refl H)).trans (Same.new (o := .tup [.str "InvalidTerm", .str "InvalidName", .str "TermTooLarge", .str "DuplicateName", .str "SystemInUse", .str "UnknownEvent", .str "UnknownSystem", .str "UnknownRun"]) nq0)
    refine ⟨q0, _, rfl, .inr (SqT.of upd_same), rfl, rfl, _, rfl, ifF (by decide +kernel) ?_⟩
    refine ⟨.ref x, rfl, x, C, dd, fs, _, rfl, (rd _ s0).1, (rd _ s0).2, hl, xf, n1, sz (by show 2 ≤ 100000; decide), fun q1 nq1 => ?_⟩
    have s1 := (s0).trans (Same.new (o := .tup [.str "InvalidRound", .str "InvalidLimit"]) nq1)
    refine ⟨q1, _, rfl, .inr (SqT.of upd_same), rfl, rfl, _, rfl, ifT (by decide +kernel) ?_⟩
    exact ⟨.ref x, rfl, x, C, dd, fs, _, rfl, (rd _ s1).1, (rd _ s1).2, hv, xf, n2, w _ s1⟩
  · -- InvalidShape
    refine ⟨.ref x, rfl, x, C, dd, fs, _, rfl, (rd _ (Same.refl H)).1, (rd _ (Same.refl H)).2, hl, xf, n1, sz (by show 8 ≤ 100000; decide), fun q0 nq0 => ?_⟩
    have s0 := ((Same.refl H)).trans (Same.new (o := .tup [.str "InvalidTerm", .str "InvalidName", .str "TermTooLarge", .str "DuplicateName", .str "SystemInUse", .str "UnknownEvent", .str "UnknownSystem", .str "UnknownRun"]) nq0)
    refine ⟨q0, _, rfl, .inr (SqT.of upd_same), rfl, rfl, _, rfl, ifF (by decide +kernel) ?_⟩
    refine ⟨.ref x, rfl, x, C, dd, fs, _, rfl, (rd _ s0).1, (rd _ s0).2, hl, xf, n1, sz (by show 2 ≤ 100000; decide), fun q1 nq1 => ?_⟩
    have s1 := (s0).trans (Same.new (o := .tup [.str "InvalidRound", .str "InvalidLimit"]) nq1)
    refine ⟨q1, _, rfl, .inr (SqT.of upd_same), rfl, rfl, _, rfl, ifF (by decide +kernel) ?_⟩
    refine ⟨.ref x, rfl, x, C, dd, fs, _, rfl, (rd _ s1).1, (rd _ s1).2, hl, xf, n1, sz (by show 2 ≤ 100000; decide), fun q2 nq2 => ?_⟩
    have s2 := (s1).trans (Same.new (o := .tup [.str "InvalidShape", .str "ParseError"]) nq2)
    refine ⟨q2, _, rfl, .inr (SqT.of upd_same), rfl, rfl, _, rfl, ifT (by decide +kernel) ?_⟩
    exact ⟨.ref x, rfl, x, C, dd, fs, _, rfl, (rd _ s2).1, (rd _ s2).2, hv, xf, n2, w _ s2⟩
  · -- ParseError
    refine ⟨.ref x, rfl, x, C, dd, fs, _, rfl, (rd _ (Same.refl H)).1, (rd _ (Same.refl H)).2, hl, xf, n1, sz (by show 8 ≤ 100000; decide), fun q0 nq0 => ?_⟩
    have s0 := ((Same.refl H)).trans (Same.new (o := .tup [.str "InvalidTerm", .str "InvalidName", .str "TermTooLarge", .str "DuplicateName", .str "SystemInUse", .str "UnknownEvent", .str "UnknownSystem", .str "UnknownRun"]) nq0)
    refine ⟨q0, _, rfl, .inr (SqT.of upd_same), rfl, rfl, _, rfl, ifF (by decide +kernel) ?_⟩
    refine ⟨.ref x, rfl, x, C, dd, fs, _, rfl, (rd _ s0).1, (rd _ s0).2, hl, xf, n1, sz (by show 2 ≤ 100000; decide), fun q1 nq1 => ?_⟩
    have s1 := (s0).trans (Same.new (o := .tup [.str "InvalidRound", .str "InvalidLimit"]) nq1)
    refine ⟨q1, _, rfl, .inr (SqT.of upd_same), rfl, rfl, _, rfl, ifF (by decide +kernel) ?_⟩
    refine ⟨.ref x, rfl, x, C, dd, fs, _, rfl, (rd _ s1).1, (rd _ s1).2, hl, xf, n1, sz (by show 2 ≤ 100000; decide), fun q2 nq2 => ?_⟩
    have s2 := (s1).trans (Same.new (o := .tup [.str "InvalidShape", .str "ParseError"]) nq2)
    refine ⟨q2, _, rfl, .inr (SqT.of upd_same), rfl, rfl, _, rfl, ifT (by decide +kernel) ?_⟩
    exact ⟨.ref x, rfl, x, C, dd, fs, _, rfl, (rd _ s2).1, (rd _ s2).2, hv, xf, n2, w _ s2⟩
  · -- InvalidCount
    refine ⟨.ref x, rfl, x, C, dd, fs, _, rfl, (rd _ (Same.refl H)).1, (rd _ (Same.refl H)).2, hl, xf, n1, sz (by show 8 ≤ 100000; decide), fun q0 nq0 => ?_⟩
    have s0 := ((Same.refl H)).trans (Same.new (o := .tup [.str "InvalidTerm", .str "InvalidName", .str "TermTooLarge", .str "DuplicateName", .str "SystemInUse", .str "UnknownEvent", .str "UnknownSystem", .str "UnknownRun"]) nq0)
    refine ⟨q0, _, rfl, .inr (SqT.of upd_same), rfl, rfl, _, rfl, ifF (by decide +kernel) ?_⟩
    refine ⟨.ref x, rfl, x, C, dd, fs, _, rfl, (rd _ s0).1, (rd _ s0).2, hl, xf, n1, sz (by show 2 ≤ 100000; decide), fun q1 nq1 => ?_⟩
    have s1 := (s0).trans (Same.new (o := .tup [.str "InvalidRound", .str "InvalidLimit"]) nq1)
    refine ⟨q1, _, rfl, .inr (SqT.of upd_same), rfl, rfl, _, rfl, ifF (by decide +kernel) ?_⟩
    refine ⟨.ref x, rfl, x, C, dd, fs, _, rfl, (rd _ s1).1, (rd _ s1).2, hl, xf, n1, sz (by show 2 ≤ 100000; decide), fun q2 nq2 => ?_⟩
    have s2 := (s1).trans (Same.new (o := .tup [.str "InvalidShape", .str "ParseError"]) nq2)
    refine ⟨q2, _, rfl, .inr (SqT.of upd_same), rfl, rfl, _, rfl, ifF (by decide +kernel) ?_⟩
    refine ⟨.ref x, rfl, x, C, dd, fs, _, rfl, (rd _ s2).1, (rd _ s2).2, hl, xf, n1, sz (by show 2 ≤ 100000; decide), fun q3 nq3 => ?_⟩
    have s3 := (s2).trans (Same.new (o := .tup [.str "CapacityExceeded", .str "InvalidCount"]) nq3)
    refine ⟨q3, _, rfl, .inr (SqT.of upd_same), rfl, rfl, _, rfl, ifT (by decide +kernel) ?_⟩
    exact ⟨.ref x, rfl, x, C, dd, fs, _, rfl, (rd _ s3).1, (rd _ s3).2, hl, xf, n1, rfl, _, rfl, ifT (by decide +kernel) ⟨.ref x, rfl, x, C, dd, fs, _, rfl, (rd _ s3).1, (rd _ s3).2, hv, xf, n2, w _ s3⟩⟩
  · -- CapacityExceeded
    refine ⟨.ref x, rfl, x, C, dd, fs, _, rfl, (rd _ (Same.refl H)).1, (rd _ (Same.refl H)).2, hl, xf, n1, sz (by show 8 ≤ 100000; decide), fun q0 nq0 => ?_⟩
    have s0 := ((Same.refl H)).trans (Same.new (o := .tup [.str "InvalidTerm", .str "InvalidName", .str "TermTooLarge", .str "DuplicateName", .str "SystemInUse", .str "UnknownEvent", .str "UnknownSystem", .str "UnknownRun"]) nq0)
    refine ⟨q0, _, rfl, .inr (SqT.of upd_same), rfl, rfl, _, rfl, ifF (by decide +kernel) ?_⟩
    refine ⟨.ref x, rfl, x, C, dd, fs, _, rfl, (rd _ s0).1, (rd _ s0).2, hl, xf, n1, sz (by show 2 ≤ 100000; decide), fun q1 nq1 => ?_⟩
    have s1 := (s0).trans (Same.new (o := .tup [.str "InvalidRound", .str "InvalidLimit"]) nq1)
    refine ⟨q1, _, rfl, .inr (SqT.of upd_same), rfl, rfl, _, rfl, ifF (by decide +kernel) ?_⟩
    refine ⟨.ref x, rfl, x, C, dd, fs, _, rfl, (rd _ s1).1, (rd _ s1).2, hl, xf, n1, sz (by show 2 ≤ 100000; decide), fun q2 nq2 => ?_⟩
    have s2 := (s1).trans (Same.new (o := .tup [.str "InvalidShape", .str "ParseError"]) nq2)
    refine ⟨q2, _, rfl, .inr (SqT.of upd_same), rfl, rfl, _, rfl, ifF (by decide +kernel) ?_⟩
    refine ⟨.ref x, rfl, x, C, dd, fs, _, rfl, (rd _ s2).1, (rd _ s2).2, hl, xf, n1, sz (by show 2 ≤ 100000; decide), fun q3 nq3 => ?_⟩
    have s3 := (s2).trans (Same.new (o := .tup [.str "CapacityExceeded", .str "InvalidCount"]) nq3)
    refine ⟨q3, _, rfl, .inr (SqT.of upd_same), rfl, rfl, _, rfl, ifT (by decide +kernel) ?_⟩
    exact ⟨.ref x, rfl, x, C, dd, fs, _, rfl, (rd _ s3).1, (rd _ s3).2, hl, xf, n1, rfl, _, rfl, ifF (by decide +kernel) ⟨.ref x, rfl, x, C, dd, fs, _, rfl, (rd _ s3).1, (rd _ s3).2, hv, xf, n2, w _ s3⟩⟩
  · -- InvalidCommand
    refine ⟨.ref x, rfl, x, C, dd, fs, _, rfl, (rd _ (Same.refl H)).1, (rd _ (Same.refl H)).2, hl, xf, n1, sz (by show 8 ≤ 100000; decide), fun q0 nq0 => ?_⟩
    have s0 := ((Same.refl H)).trans (Same.new (o := .tup [.str "InvalidTerm", .str "InvalidName", .str "TermTooLarge", .str "DuplicateName", .str "SystemInUse", .str "UnknownEvent", .str "UnknownSystem", .str "UnknownRun"]) nq0)
    refine ⟨q0, _, rfl, .inr (SqT.of upd_same), rfl, rfl, _, rfl, ifF (by decide +kernel) ?_⟩
    refine ⟨.ref x, rfl, x, C, dd, fs, _, rfl, (rd _ s0).1, (rd _ s0).2, hl, xf, n1, sz (by show 2 ≤ 100000; decide), fun q1 nq1 => ?_⟩
    have s1 := (s0).trans (Same.new (o := .tup [.str "InvalidRound", .str "InvalidLimit"]) nq1)
    refine ⟨q1, _, rfl, .inr (SqT.of upd_same), rfl, rfl, _, rfl, ifF (by decide +kernel) ?_⟩
    refine ⟨.ref x, rfl, x, C, dd, fs, _, rfl, (rd _ s1).1, (rd _ s1).2, hl, xf, n1, sz (by show 2 ≤ 100000; decide), fun q2 nq2 => ?_⟩
    have s2 := (s1).trans (Same.new (o := .tup [.str "InvalidShape", .str "ParseError"]) nq2)
    refine ⟨q2, _, rfl, .inr (SqT.of upd_same), rfl, rfl, _, rfl, ifF (by decide +kernel) ?_⟩
    refine ⟨.ref x, rfl, x, C, dd, fs, _, rfl, (rd _ s2).1, (rd _ s2).2, hl, xf, n1, sz (by show 2 ≤ 100000; decide), fun q3 nq3 => ?_⟩
    have s3 := (s2).trans (Same.new (o := .tup [.str "CapacityExceeded", .str "InvalidCount"]) nq3)
    refine ⟨q3, _, rfl, .inr (SqT.of upd_same), rfl, rfl, _, rfl, ifF (by decide +kernel) ?_⟩
    exact ⟨.ref x, rfl, x, C, dd, fs, _, rfl, (rd _ s3).1, (rd _ s3).2, hl, xf, n1, rfl, _, rfl, ifT (by decide +kernel) ⟨.ref x, rfl, x, C, dd, fs, _, rfl, (rd _ s3).1, (rd _ s3).2, hv, xf, n2, w _ s3⟩⟩
end
section
variable {P : Program} {w : World} {K : PySem.W.Frag} {mg : Str → Option Value} {base : Heap} {a : Ad}
theorem roomH_of {X : Cx} {k : Nat} {A : Around} {a : Value} (r : Room (k + 1) A) : L2H.RoomH 1 { A with handled := some a } := ⟨by have := r.dp; show A.depth + 3 * 1 + 5 < _; omega, by have := r.un; show A.units + 16 * 1 + 200 < _; omega⟩

theorem givF_l_outcome {X : Cx} {a : Ad} (T : Txt X.K X.mg a) {k : Nat} {cdv : Value} : LmS.GivesF X ["_law_ask", "_law_answer", "_law_tag", "_law_field", "_law_e"] "_law_outcome" (defScope s_l_outcome) a.f_l_outcome cdv (defBody s_l_outcome) "_law_ask" (k + 1) (TTo X.K a) := by
  intro f G s H Q tl stab hr act hc h
  refine ⟨_, pss_cons (ps_asg (pe_tup (pa_cons pe_non (pa_cons pe_str (pa_cons pe_non pa_nil)))) (pg_tup rfl (pgs_cons (pg_name (i := 1) sc_l_outcome.nd rfl (Or.inl rfl)) (pgs_cons (pg_name (i := 2) sc_l_outcome.nd rfl (Or.inl rfl)) (pgs_cons (pg_name (i := 3) sc_l_outcome.nd rfl (Or.inl rfl)) pgs_nil)))))
    (pss_cons (TrT.ps_try_tup (X := (LmN.gCx X CX0 E0 ["_law_ask", "_law_answer", "_law_tag", "_law_field", "_law_e"] "_law_outcome" (defScope s_l_outcome) a.f_l_outcome cdv s H).nox) (i := 4) (n := "_law_e") rfl rfl sc_l_outcome.nd rfl rfl takesN (fun W pn xe tk _ => pss_one (ps_set (i := 1) sc_l_outcome.nd rfl (.inl rfl) (act W pn xe _ _ tk)))
      (l := [((.ref a.C_GaitError, .ref a.C_NotFound), fun a0 => TrT.tParH a0 2 3 (tCons (TrT.tXq X.K "tag" (tVar 4)) (tCons (fun σ H Q => tCons (tVar 4) tNil σ H fun vs H1 => sp_l_error_field X.K vs H1 Q L2.E0) tNil))), ((.ref a.C_ZeroDenominator, .ref a.C_EmptyHistory), fun _ => tAsg (TrT.tXq X.K "tag" (tVar 4)) (gName 2))])
      (by
        refine .cons (by rfl) T.gC_GaitError (by decide) (by rfl) T.gC_NotFound (by decide) (fun a0 _ => ?_) ?_
        · exact pss_one (TrT.ps_parH (i := 2) (j := 3) rfl sc_l_outcome.nd rfl rfl (by decide) rfl rfl (pa_cons (TrT.pe_xq (pv 4)) (pa_cons (LmN.pe_callS (oks_l_error_field T) (roomH_of (X := X) hr) (by rfl) T.g_l_error_field T.F_l_error_field.kp T.b_l_error_field (pa_cons (pv 4) pa_nil)) pa_nil)) (by rfl))
        refine .cons (by rfl) T.gC_ZeroDenominator (by decide) (by rfl) T.gC_EmptyHistory (by decide) (fun _ _ => ?_) .nil
        exact pss_one (ps_set (i := 2) sc_l_outcome.nd rfl (.inl rfl) (TrT.pe_xq (pv 4)))))
    (pss_one (ps_ret (pe_tup (pa_cons (pv 1) (pa_cons (pv 2) (pa_cons (pv 3) pa_nil))))))), ?_⟩
  refine ⟨sz (by show 3 ≤ 100000; decide), fun tp ntp => ?_⟩
  have s0 := Same.new (o := .tup [.non, .str "", .non]) ntp
  refine ⟨tp, _, rfl, SqT.of upd_same, rfl, _, _, rfl, _, _, rfl, _, _, rfl, rfl, ?_⟩
  refine ⟨rfl, stab _ _ hc s0, _, _, ?_, ?_, h _ s0⟩
  · rintro cls d H' ⟨C, dd, fs, tag, rfl, rfl, hd, hl, xf, no, (⟨e1, e2, w⟩ | ⟨e1, hm, w⟩) | ⟨e1, fld, v, hm, hv, nf, w⟩⟩
    · refine ⟨false, e1, fun z => (by cases z), fun _ => ⟨true, e2, fun _ x nx => ?_, fun z => (by cases z)⟩⟩
      have s1 := Same.new (o := TrT.exq x (.ref C) (some dd)) nx
      refine ⟨.ref x, rfl, x, C, dd, fs, .str tag, rfl, upd_same, s1 _ _ hd, hl, xf, no, ?_⟩
      exact ⟨.non, rfl, .str tag, rfl, .non, rfl, sz (by show 3 ≤ 100000; decide), fun p np => w p _ (s1.trans (Same.new np)) (s1.free np) upd_same⟩
    · refine ⟨true, e1, fun _ x nx => ?_, fun z => (by cases z)⟩
      have s1 := Same.new (o := TrT.exq x (.ref C) (some dd)) nx
      refine ⟨.ref x, rfl, x, C, dd, fs, .str tag, rfl, upd_same, s1 _ _ hd, hl, xf, no, .ref x, rfl, ?_⟩
      refine ⟨x, C, dd, fs, tag, .non, rfl, upd_same, s1 _ _ hd, hl, xf, no, .inr ⟨hm, rfl⟩, fun H2 s2 => ⟨_, _, _, _, rfl, s2 _ _ upd_same, ?_⟩⟩
      have s3 := s1.trans s2
      exact ⟨.non, rfl, .str tag, rfl, .non, rfl, sz (by show 3 ≤ 100000; decide), fun p np => w p _ (s3.trans (Same.new np)) (s3.free np) upd_same⟩
    · refine ⟨true, e1, fun _ x nx => ?_, fun z => (by cases z)⟩
      have s1 := Same.new (o := TrT.exq x (.ref C) (some dd)) nx
      refine ⟨.ref x, rfl, x, C, dd, fs, .str tag, rfl, upd_same, s1 _ _ hd, hl, xf, no, .ref x, rfl, ?_⟩
      refine ⟨x, C, dd, fs, tag, v, rfl, upd_same, s1 _ _ hd, hl, xf, no, .inl ⟨fld, hm, hv, nf⟩, fun H2 s2 => ⟨_, _, _, _, rfl, s2 _ _ upd_same, ?_⟩⟩
      have s3 := s1.trans s2
      exact ⟨.non, rfl, .str tag, rfl, v, rfl, sz (by show 3 ≤ 100000; decide), fun p np => w p _ (s3.trans (Same.new np)) (s3.free np) upd_same⟩
  · intro v H1 h1
    exact ⟨v, rfl, .str "", rfl, .non, rfl, sz (by show 3 ≤ 100000; decide), fun p np => h1 p np⟩
end
section
variable {P : Program} {w : World} {K : PySem.W.Frag} {mg : Str → Option Value} {base : Heap} {a : Ad}
theorem giv_l_outcome {X : Cx} {a : Ad} (T : Txt X.K X.mg a) {k : Nat} {q : Str} {cdv : Value} : LmN.Gives X ["_law_ask", "_law_answer", "_law_tag", "_law_field", "_law_e"] "_law_outcome" (defScope s_l_outcome) a.f_l_outcome cdv (defBody s_l_outcome) "_law_ask" q (k + 1) (TTo X.K a) := LmS.gives_of (givF_l_outcome T)
theorem givF2_l_outcome {X Y : Cx} {a : Ad} (T : Txt X.K X.mg a) (hK : Y.K = X.K) (hM : Y.mg = X.mg) {k : Nat} {cdv : Value} {N : List Str} (h : ∀ {Y : Cx}, Txt Y.K Y.mg a → LmS.GivesF Y N "_law_outcome" (defScope s_l_outcome) a.f_l_outcome cdv (defBody s_l_outcome) "_law_ask" (k + 1) (TTo Y.K a)) : LmS.GivesF Y N "_law_outcome" (defScope s_l_outcome) a.f_l_outcome cdv (defBody s_l_outcome) "_law_ask" (k + 1) (TTo X.K a) := by
  have z := h (Y := Y) (by rw [hK, hM]; exact T)
  rw [hK] at z
  exact z
/-- what the law makes of a lambda: the tag and the field -/
def TTe (K : PySem.W.Frag) (a : Ad) : (XK → Hp → VK → Prop) → Hp → VK → Prop := fun tl H Q => TTo K a tl H (fun v H1 => ∃ i : Int, V.int 1 = .int i ∧ rSlT K v (some i) none H1 Q)
theorem tte_q {K : PySem.W.Frag} {H : Hp} {p : Addr} {x y z : V} {Q : VK} (hp : SqT K H p [x, y, z]) (w : ∀ c, H c = none → Q (.ref c) (upd H c (.tup [y, z]))) : ∃ i : Int, V.int 1 = .int i ∧ rSlT K (.ref p) (some i) none H Q :=
  ⟨1, rfl, p, _, rfl, hp, not_whole _ _, fun c nc => by rw [cut_one]; exact w c nc⟩
theorem giv2_l_outcome {X Y : Cx} {a : Ad} (T : Txt X.K X.mg a) (hK : Y.K = X.K) (hM : Y.mg = X.mg) {k : Nat} {q : Str} {cdv : Value} {N : List Str} (h : ∀ {Y : Cx}, Txt Y.K Y.mg a → LmN.Gives Y N "_law_outcome" (defScope s_l_outcome) a.f_l_outcome cdv (defBody s_l_outcome) "_law_ask" q (k + 1) (TTo Y.K a)) : LmN.Gives Y N "_law_outcome" (defScope s_l_outcome) a.f_l_outcome cdv (defBody s_l_outcome) "_law_ask" q (k + 1) (TTo X.K a) := by
  have z := h (Y := Y) (by rw [hK, hM]; exact T)
  rw [hK] at z
  exact z

theorem hndF_l_error {X : Cx} {a : Ad} (T : Txt X.K X.mg a) {cdv : Value} : LmS.HandsF X ["_law_ask"] "_law_error" (defScope s_l_error) a.f_l_error cdv (defBody s_l_error) "_law_ask" "_law_outcome" (TTo X.K a) (TTe X.K a) := by
  intro f G s H Q tl stab act hc h
  refine ⟨_, pss_one (ps_ret (pe_slice sl_tup (act _ _ _) (po_some pe_int) po_none)), ?_⟩
  exact ⟨rfl, hc, h⟩
end
section
variable {P : Program} {w : World} {K : PySem.W.Frag} {mg : Str → Option Value} {base : Heap} {a : Ad}
def sp_l_reduce (_ : PySem.W.Frag) : Sp := fun vs H Q _ => ∃ (n d : Int), vs = [.int n, .int d] ∧ d ≠ 0 ∧ d.natAbs < 2 ^ 8000 ∧ ∀ p, H p = none → Q (.ref p) (upd H p (.tup [.int (red n d).1, .int (red n d).2]))

theorem ok_l_reduce (T : Txt K mg a) : FnOk P w K mg base CX0 1 a.f_l_reduce a.fd_l_reduce ["_law_num", "_law_den"] (sp_l_reduce K) := by
  refine T.F_l_reduce.ok sc_l_reduce (fun vs H Q E h => ?_) (fun cdv A outer s H vs Q E hr h => ?_)
  · obtain ⟨n, d, rfl, _⟩ := h
    rfl
  · obtain ⟨n, d, rfl, hd, dB, w⟩ := h
    refine ⟨_, (pss_cons (ps_par (i := 2) (j := 3) (by rfl) sc_l_reduce.nd rfl rfl (by decide) rfl rfl (pa_cons (pe_callB call_abs (by rfl) T.n_abs (by decide +kernel) (pa_cons (pv 0) pa_nil)) (pa_cons (pe_callB call_abs (by rfl) T.n_abs (by decide +kernel) (pa_cons (pv 1) pa_nil)) pa_nil)) (by rfl))
          (pss_cons (ps_while PassesOwn.never (pt_cmpR op_ne (pv 3) pe_int (nomark _)) (pss_one (ps_par (i := 2) (j := 3) (by rfl) sc_l_reduce.nd rfl rfl (by decide) rfl rfl (pa_cons (pv 3) (pa_cons (pe_op op_mod (pv 2) (pv 3)) pa_nil)) (by rfl))))
          (pss_cons (ps_set (i := 4) sc_l_reduce.nd rfl (by first | exact Or.inl rfl | exact Or.inr rfl) (pe_ifExp (pt_cmpR op_gt (pv 1) pe_int (nomark _)) pe_int (pe_un un_neg pe_int)))
          (pss_one (ps_ret (pe_tup (pa_cons (pe_op op_fdivW (pe_op op_mul (pv 4) (pv 0)) (pv 2)) (pa_cons (pe_op op_fdivW (pe_op op_mul (pv 4) (pv 1)) (pv 2)) pa_nil)))))))), ?_⟩
    refine ⟨.int n, rfl, n, rfl, .int d, rfl, d, rfl, _, _, rfl, ?_⟩
    refine ⟨fun m σ H' => ∃ x y : Int, σ = [some (.int n), some (.int d), some (.int x), some (.int y), none] ∧ 0 ≤ x ∧ 0 ≤ y ∧ Int.gcd x y = Int.gcd n d ∧ m = y.toNat ∧ H' = H, ⟨_, _, _, rfl, ?_, ?_, ?_, rfl, rfl⟩, ?_⟩
    · split <;> omega
    · split <;> omega
    · rw [Int.gcd_eq_natAbs_gcd_natAbs, Int.gcd_eq_natAbs_gcd_natAbs]
      congr 1
      · split <;> omega
      · split <;> omega
    rintro m σ H' ⟨x, y, rfl, x0, y0, hg, rfl, hH⟩
    obtain rfl : H = H' := hH.symm
    refine ⟨.int y, rfl, rfl, _, rfl, ite2 (fun e => ?_) (fun e => ?_)⟩
    · have y1 : y ≠ 0 := fun z => by subst z; simp at e
      refine ⟨fun σ' H' => σ' = [some (.int n), some (.int d), some (.int y), some (.int (x % y)), none] ∧ H' = H, ?_, ?_⟩
      · rintro σ' H' ⟨rfl, rfl⟩
        have h1 : 0 ≤ x % y := Int.emod_nonneg _ y1
        have h2 : x % y < y := Int.emod_lt_of_pos _ (by omega)
        exact ⟨(x % y).toNat, by omega, y, x % y, rfl, y0, h1, by rw [gcd_step x0 y0]; exact hg, rfl, rfl⟩
      · exact ⟨.int y, rfl, .int x, rfl, .int y, rfl, x, y, rfl, rfl, (show (0 : Int) < y by omega), _, _, rfl, rfl, rfl⟩
    · have y1 : y = 0 := by
        by_cases z : y = 0
        · exact z
        · exfalso; apply e; simp [z]
      subst y1
      have hx : x = (Int.gcd n d : Int) := by
        rw [← hg, Int.gcd_zero_right]
        omega
      have hp : 0 < x := by rw [hx]; exact gcd_posI hd
      have hB : x.natAbs < 2 ^ 8000 := by
        refine Nat.lt_of_le_of_lt ?_ dB
        have : Int.gcd n d ∣ d.natAbs := Nat.gcd_dvd_right _ _
        have := Nat.le_of_dvd (by omega) this
        omega
      have hdiv : ∀ i, CDivW i x := fun i => wide_div (b := 8000) hp hB (by decide) (by decide)
      refine ⟨.int d, rfl, d, 0, rfl, rfl, _, rfl, ?_⟩
      have fin : ∀ s : Int, s = 1 ∨ s = -1 → s = (if d > 0 then 1 else -1) → (tRet (tTup (tCons (tOp (rI CDivW fun i j => .int (i / j)) (tOp (rI CMul fun i j => .int (i * j)) (tVar 4) (tVar 0)) (tVar 2)) (tCons (tOp (rI CDivW fun i j => .int (i / j)) (tOp (rI CMul fun i j => .int (i * j)) (tVar 4) (tVar 1)) (tVar 2)) tNil)))) { nx := fun _ H' => Q .non H', rt := Q } [some (.int n), some (.int d), some (.int x), some (.int 0), some (.int s)] H := by
        intro s hs es
        refine ⟨.int s, rfl, .int n, rfl, s, n, rfl, rfl, .inl ⟨by omega, by omega⟩, .int x, rfl, _, x, rfl, rfl, hdiv _, .int s, rfl, .int d, rfl, s, d, rfl, rfl, .inl ⟨by omega, by omega⟩, .int x, rfl, _, x, rfl, rfl, hdiv _, sz (by show 2 ≤ 100000; decide), fun p np => ?_⟩
        have z := w p np
        unfold red at z
        rw [← hx, ← es] at z
        exact z
      refine ite2 (fun e2 => ?_) (fun e2 => ?_)
      · exact fin 1 (.inl rfl) (by rw [if_pos (show d > 0 from of_decide_eq_true e2)])
      · refine ⟨1, rfl, ?_⟩
        exact fin (-1) (.inr rfl) (by rw [if_neg (show ¬ d > 0 from fun z => e2 (decide_eq_true z))])
end
section
variable {P : Program} {w : World} {K : PySem.W.Frag} {mg : Str → Option Value} {base : Heap} {a : Ad}
def sp_l_small (K : PySem.W.Frag) : Sp := fun vs H Q _ => ∃ (r : Addr), vs = [.ref r] ∧ Rg H r ∧ ∀ v H' n d, Kp r H H' → Rg H' r → FrB K H' v n d 5 → Q v H'

theorem ok_l_small (T : Txt K mg a) : FnOk P w K mg base CX0 3 a.f_l_small a.fd_l_small ["_law_rng"] (sp_l_small K) := by
  have G_l_reduce := ok_l_reduce (P := P) (w := w) (base := base) T
  have G_l_choice := ok_l_choice (P := P) (w := w) (base := base) T
  have G_l_draw := ok_l_draw (P := P) (w := w) (base := base) T
  refine T.F_l_small.ok sc_l_small (fun vs H Q E h => ?_) (fun cdv A outer s H vs Q E hr h => ?_)
  · obtain ⟨r, rfl, _⟩ := h
    rfl
  · obtain ⟨r, rfl, R, w⟩ := h
    refine ⟨_, (pss_one (ps_ret (pe_call G_l_reduce (hr.mono (by first | decide | omega)) (by rfl) T.g_l_reduce T.F_l_reduce.kp T.b_l_reduce .nil pass0 (pa_cons (pe_op op_sub (pe_call G_l_draw (hr.mono (by first | decide | omega)) (by rfl) T.g_l_draw T.F_l_draw.kp T.b_l_draw .nil pass0 (pa_cons (pv 0) (pa_cons pe_int pa_nil))) pe_int) (pa_cons (pe_call G_l_choice (hr.mono (by first | decide | omega)) (by rfl) T.g_l_choice T.F_l_choice.kp T.b_l_choice .nil pass0 (pa_cons (pv 0) (pa_cons (pe_lst (pa_cons pe_int (pa_cons pe_int (pa_cons pe_int (pa_cons pe_int (pa_cons pe_int (pa_cons pe_int pa_nil))))))) pa_nil))) pa_nil))))), ?_⟩
    refine ⟨.ref r, rfl, r, 25, rfl, R, by decide, by decide, fun v H1 v0 v1 k1 R1 => ?_⟩
    refine ⟨_, _, rfl, rfl, .ref r, rfl, sz (by show 6 ≤ 100000; decide), fun l nl => ?_⟩
    have R2 : Rg (upd H1 l (.lst [.int 1, .int 1, .int 1, .int 2, .int 3, .int 4])) r := R1.same (Same.new nl)
    refine ⟨r, .ref l, _, rfl, R2, .inl ⟨l, rfl, R1.ne nl, .inl (SqL.of upd_same)⟩, by show 0 < 6; decide, by show 6 ≤ 100000; decide, fun x hx H2 k2 R3 => ?_⟩
    obtain ⟨j, rfl, j0, j1⟩ : ∃ j : Int, x = .int j ∧ 0 < j ∧ j < 32 := by
      simp only [List.mem_cons, List.not_mem_nil, or_false] at hx
      rcases hx with h | h | h | h | h | h
      · exact ⟨1, h, by decide, by decide⟩
      · exact ⟨1, h, by decide, by decide⟩
      · exact ⟨1, h, by decide, by decide⟩
      · exact ⟨2, h, by decide, by decide⟩
      · exact ⟨3, h, by decide, by decide⟩
      · exact ⟨4, h, by decide, by decide⟩
    have hB : (2 : Nat) ^ 5 = 32 := by decide
    refine ⟨v - 8, j, rfl, by omega, Nat.lt_of_lt_of_le (show j.natAbs < 2 ^ 5 by omega) (Nat.pow_le_pow_right (by decide) (by decide)), fun p np => ?_⟩
    have k3 := k1.trans ((Kp.of (Same.new nl)).trans k2)
    exact w _ _ _ _ (k3.trans (Kp.of (Same.new np))) (R3.same (Same.new np)) (red_B (by omega) (by omega) (by omega))
end
section
variable {P : Program} {w : World} {K : PySem.W.Frag} {mg : Str → Option Value} {base : Heap} {a : Ad}
def sp_l_letters (_ : PySem.W.Frag) : Sp := fun vs H Q _ => vs = [] ∧ Q (.str "abcdefghijklmnopqrstuvwxyz") H

theorem ok_l_letters (T : Txt K mg a) : FnOk P w K mg base CX0 1 a.f_l_letters a.fd_l_letters [] (sp_l_letters K) := by
  refine T.F_l_letters.ok sc_l_letters (fun vs H Q E h => ?_) (fun cdv A outer s H vs Q E hr h => ?_)
  · rw [h.1]; rfl
  · obtain ⟨rfl, w⟩ := h
    refine ⟨_, (pss_one (ps_ret pe_str)), ?_⟩
    exact w
end
section
variable {P : Program} {w : World} {K : PySem.W.Frag} {mg : Str → Option Value} {base : Heap} {a : Ad}
def sp_l_is_name (K : PySem.W.Frag) : Sp := fun vs H Q _ => ∃ z : Str, vs = [.str z] ∧ z.length ≤ 100000 ∧ ∀ H', Same H H' → Q (.bl (nameB z)) H'

theorem ok_l_is_name (T : Txt K mg a) : FnOk P w K mg base CX0 2 a.f_l_is_name a.fd_l_is_name ["_law_text"] (sp_l_is_name K) := by
  have G_l_letters := ok_l_letters (P := P) (w := w) (base := base) T
  refine T.F_l_is_name.ok sc_l_is_name (fun vs H Q E h => ?_) (fun cdv A outer s H vs Q E hr h => ?_)
  · obtain ⟨v, rfl, _⟩ := h
    rfl
  · obtain ⟨z, rfl, hz, w⟩ := h
    refine ⟨_, (pss_cons (ps_if (PW.pt (pw_or (pt_not (pt_chain op_le op_le pe_int (pe_callB call_len (by rfl) T.n_len (by decide +kernel) (pa_cons (pv 0) pa_nil)) pe_int)) (pw_or1 (pt_cmpR op_in_seq (pv 0) (pe_tup (pa_cons pe_str (pa_cons pe_str (pa_cons pe_str (pa_cons pe_str pa_nil))))) (by rfl))))) (pss_one (ps_ret pe_bl)) pss_nil)
          (pss_one (ps_ret (pe_callB (cr_all rfl) (by rfl) T.n_all (by decide +kernel) (pa_cons (pe_lc (own := [("_law_sign", 1)]) (g := gName 1) rfl sc_l_is_name.nd (pi_str (pv 0)) (blkOk_by (own := [("_law_sign", 1)]) (N := ["_law_text", "_law_sign"]) (sc := defScope s_l_is_name) (by decide +kernel)) (fun _ _ _ _ _ => (pg_name (i := 1) sc_l_is_name.nd rfl (Or.inl rfl))) (fun _ _ _ _ _ => pts_nil) (fun _ _ _ _ _ => (pe_cmpR op_in_sign (pv 1) (pe_call0 G_l_letters (hr.mono (by first | decide | omega)) (by rfl) T.g_l_letters T.F_l_letters.kp T.b_l_letters .nil pass0) (by rfl)))) pa_nil))))), ?_⟩
    have no : ∀ H', Same H H' → nameB z = false → Q (.bl false) H' := fun H' s e => by
      have := w H' s
      rw [e] at this
      exact this
    refine ⟨.str z, rfl, .str z, z.length, rfl, ⟨sz hz, rfl⟩, 1, (z.length : Int), rfl, rfl, _, rfl, ite2 (fun e1 => ?_) (fun e1 => ?_)⟩
    rotate_left
    · refine ⟨false, rfl, iteT (iteT (no H (Same.refl H) ?_))⟩
      have : ¬ 1 ≤ z.length := fun y => e1 (decide_eq_true (by omega))
      unfold nameB
      rw [decide_eq_false this]
      rfl
    have l1 : 1 ≤ z.length := by have := of_decide_eq_true e1; omega
    by_cases l2 : z.length ≤ 6
    rotate_left
    · refine ⟨(z.length : Int), 6, rfl, rfl, false, congrArg V.bl (decide_eq_false (by omega)), iteT (iteT (no H (Same.refl H) ?_))⟩
      unfold nameB
      rw [decide_eq_true l1, decide_eq_false l2]
      rfl
    refine ⟨(z.length : Int), 6, rfl, rfl, true, congrArg V.bl (decide_eq_true (by omega)), iteF ?_⟩
    refine ⟨.str z, rfl, sz (by show 4 ≤ 100000; decide), fun p np => ?_⟩
    have s0 := Same.new (o := .tup kws4) np
    refine ⟨p, kws4, rfl, .inr (SqT.of upd_same), rfl, rfl, _, rfl, ite2 (fun e => ?_) (fun e => ?_)⟩
    · refine no _ s0 ?_
      have e' : inV (.str z) kws4 = true := e
      unfold nameB
      rw [e', Bool.not_true, Bool.and_false, Bool.and_false]
    have e' : inV (.str z) kws4 = false := Bool.eq_false_iff.mpr e
    refine ⟨.str z, rfl, z, rfl, fun D nD => ?_⟩
    have nD0 : H D = none := s0.free nD
    refine ⟨fun i m H1 => i + m = z.length ∧ Same H H1 ∧ H1 D = some (.lst (((z.cps.toList.take i).map lowB).map V.bl)), ⟨z.length, by omega, s0.trans (Same.new nD), by rw [upd_same]; rfl⟩, fun i m H1 hW => ?_⟩
    obtain ⟨em, s1, hD⟩ := hW
    by_cases hi : i < z.length
    · refine .inr ⟨(show i < z.cps.size from hi), fun H2 => Same H H2 ∧ H2 D = some (.lst (((z.cps.toList.take (i + 1)).map lowB).map V.bl)), fun H2 hN => ⟨m - 1, by omega, by omega, hN.1, hN.2⟩, fun v H2 hy => ?_⟩
      obtain ⟨rfl, c, hc, rfl⟩ := hy
      have hc2 : z.cps.toList[i]? = some c := by rw [Array.getElem?_toList]; exact hc
      refine ⟨rfl, tYes_if ?_⟩
      refine ⟨.str ⟨#[c]⟩, rfl, rfl, c, "abcdefghijklmnopqrstuvwxyz", rfl, rfl, ?_⟩
      refine ⟨_, hD, ?_, fun x o e => ?_, ?_⟩
      · rw [List.length_map, List.length_map, List.length_take]
        exact szl (by omega)
      · rw [upd_ne (ne_of_none e nD0)]
        exact s1 _ _ e
      · rw [upd_same, abc_mem, tk_more hc2, List.map_append]
        rfl
    · have ei : i = z.length := by omega
      subst ei
      refine .inl ⟨(show z.cps.size ≤ z.length from Nat.le_refl _), ?_⟩
      rw [show z.cps.toList.take z.length = z.cps.toList by rw [← cps_len, List.take_length]] at hD
      refine ⟨D, z.cps.toList.map lowB, rfl, SqL.of hD, ?_⟩
      have ea : (z.cps.toList.map lowB).all id = z.cps.toList.all lowB := by rw [List.all_map]; rfl
      rw [ea]
      have := w H1 s1
      unfold nameB at this
      rw [decide_eq_true l1, decide_eq_true l2, e', Bool.not_false, Bool.and_true, Bool.and_true, Bool.true_and] at this
      exact this
end
section
variable {P : Program} {w : World} {K : PySem.W.Frag} {mg : Str → Option Value} {base : Heap} {a : Ad}
def sp_l_plain (K : PySem.W.Frag) : Sp := fun vs H Q _ => ∃ (l : Addr) (ss : List Str), vs = [.ref l] ∧ SqL K H l (ss.map V.str) ∧ ss.length ≤ 60 ∧ (∀ s ∈ ss, s.length ≤ 1000) ∧ ∀ (b : Bool) H', Same H H' → (b = true → ss.Nodup ∧ ∀ s ∈ ss, nameB s = true) → Q (.bl b) H'

theorem ok_l_plain (T : Txt K mg a) : FnOk P w K mg base CX0 3 a.f_l_plain a.fd_l_plain ["_law_names_here"] (sp_l_plain K) := by
  have G_l_is_name := ok_l_is_name (P := P) (w := w) (base := base) T
  refine T.F_l_plain.ok sc_l_plain (fun vs H Q E h => ?_) (fun cdv A outer s H vs Q E hr h => ?_)
  · obtain ⟨l, ss, rfl, _⟩ := h
    rfl
  · obtain ⟨l, ss, rfl, hS, hl, hs, w⟩ := h
    refine ⟨_, (pss_one (ps_ret (pe_and (pe_cmpR op_eq (StT.pe_lenSetT rfl (by rfl) T.n_len (by rfl) T.n_set (pv 0)) (pe_callB call_len (by rfl) T.n_len (by decide +kernel) (pa_cons (pv 0) pa_nil)) (nomark _)) (pe_one (pe_callB (cr_all rfl) (by rfl) T.n_all (by decide +kernel) (pa_cons (pe_lc (own := [("_law_name", 1)]) (g := gName 1) rfl sc_l_plain.nd (pi_list (pv 0)) (blkOk_by (own := [("_law_name", 1)]) (N := ["_law_names_here", "_law_name"]) (sc := defScope s_l_plain) (by decide +kernel)) (fun _ _ _ _ _ => (pg_name (i := 1) sc_l_plain.nd rfl (Or.inl rfl))) (fun _ _ _ _ _ => pts_nil) (fun _ _ _ _ _ => (pe_call G_l_is_name (hr.mono (by first | decide | omega)) (by rfl) T.g_l_is_name T.F_l_is_name.kp T.b_l_is_name .nil pass0 (pa_cons (pv 1) pa_nil)))) pa_nil)))))), ?_⟩
    refine ⟨.ref l, rfl, l, ss, rfl, hS, by omega, fun m m1 m2 => ?_⟩
    refine ⟨.ref l, rfl, .ref l, (ss.map V.str).length, rfl, .inl ⟨_, hS, rfl⟩, rfl, _, rfl, ite2 (fun e => ?_) (fun e => ?_)⟩
    rotate_left
    · exact w false H (Same.refl H) fun z => by cases z
    have em : m = ss.length := by
      have := V.int.inj (of_decide_eq_true e)
      rw [List.length_map] at this
      omega
    have nd := m2 em
    refine ⟨.ref l, rfl, l, rfl, ⟨_, hS⟩, fun D nD => ?_⟩
    refine lc_list (K := K) (a := l) (xs := ss.map V.str) (fun i H2 => Same H H2 ∧ H2 D = some (.lst (((ss.take i).map nameB).map V.bl))) ⟨Same.new nD, upd_same⟩ (fun i H2 _ z => z.1.seq hS) ?_ ?_
    · rintro i x H2 hx ⟨s2, hD⟩
      obtain ⟨q, hq, rfl⟩ : ∃ q, ss[i]? = some q ∧ x = V.str q := by
        rw [List.getElem?_map] at hx
        cases e : ss[i]? with
        | none => rw [e] at hx; cases hx
        | some q => rw [e] at hx; exact ⟨q, rfl, (Option.some.inj hx).symm⟩
      refine ⟨rfl, tYes_if ?_⟩
      have hql := hs q (List.mem_of_getElem? hq)
      refine ⟨.str q, rfl, q, rfl, by omega, fun H3 s3 => ⟨_, s3 _ _ hD, ?_, fun b o z => ?_, ?_⟩⟩
      · rw [List.length_map, List.length_map, List.length_take]; exact szl (by omega)
      · rw [upd_ne (ne_of_none z nD)]; exact s3 _ _ (s2 _ _ z)
      · rw [upd_same, tk_more hq, List.map_append]; rfl
    · rintro H2 ⟨s2, hD⟩
      rw [List.length_map, List.take_length] at hD
      refine ⟨D, ss.map nameB, rfl, SqL.of hD, ?_⟩
      refine w _ H2 s2 fun z => ⟨nd, fun s hs' => ?_⟩
      rw [List.all_map, List.all_eq_true] at z
      exact z s hs'
end
section
variable {P : Program} {w : World} {K : PySem.W.Frag} {mg : Str → Option Value} {base : Heap} {a : Ad}
def sp_l_names (K : PySem.W.Frag) : Sp := fun vs H Q _ => ∃ (r : Addr) (q : Nat), vs = [.ref r, .int (q : Nat)] ∧ Rg H r ∧ 1 ≤ q ∧ q ≤ 8 ∧ ∀ (l : Addr) (H' : Hp) (ss : List Str), Kp r H H' → Rg H' r → H' l = some (.lst (ss.map V.str)) → l ≠ r → ss.length = q → ss.Nodup → (∀ s ∈ ss, nameB s = true) → Q (.ref l) H'
theorem jn_len : ∀ (ys : List Str), (∀ y ∈ ys, y.length = 1) → (Txt.join "" ys).length = ys.length
  | ys, h => by
    rw [TL.join_eq]
    induction ys with
    | nil => rfl
    | cons y r ih =>
      cases r with
      | nil => exact h y List.mem_cons_self
      | cons z r =>
        have i1 := ih (fun x hx => h x (List.mem_cons_of_mem _ hx))
        show (y ++ "" ++ Str.join "" (z :: r)).length = _
        rw [Str.length_append, Str.length_append, i1, h y List.mem_cons_self]
        show 1 + 0 + (z :: r).length = (y :: z :: r).length
        rw [List.length_cons, List.length_cons, List.length_cons]
        omega
theorem ones_sum : ∀ (ys : List Str), (∀ y ∈ ys, y.length = 1) → (ys.map (·.length)).sum = ys.length
  | [], _ => rfl
  | y :: r, h => by
    rw [List.map_cons, List.sum_cons, ones_sum r (fun x hx => h x (List.mem_cons_of_mem _ hx)), h y List.mem_cons_self, List.length_cons]
    omega
def spare : List Str := ["a", "bb", "ccc", "dddd", "eeeee", "ffffff", "g", "hh"]
theorem spare_nd : spare.Nodup := by decide +kernel
theorem spare_nm : ∀ s ∈ spare, nameB s = true := by decide +kernel
theorem cut_to (xs : List V) (q : Nat) (h : q ≤ xs.length) : cutV xs none (some (q : Int)) = xs.take q := by
  unfold cutV
  rw [HT.sIx_none, show HT.sIx xs.length xs.length (some (q : Int)) = min q xs.length from HT.sIx_nat xs.length xs.length q, List.drop_zero, show min q xs.length - 0 = q by omega]

theorem ok_l_names (T : Txt K mg a) : FnOk P w K mg base CX0 4 a.f_l_names a.fd_l_names ["_law_rng", "_law_quantity"] (sp_l_names K) := by
  have G_l_choice := ok_l_choice (P := P) (w := w) (base := base) T
  have G_l_letters := ok_l_letters (P := P) (w := w) (base := base) T
  have G_l_draw := ok_l_draw (P := P) (w := w) (base := base) T
  have G_l_plain := ok_l_plain (P := P) (w := w) (base := base) T
  refine T.F_l_names.ok sc_l_names (fun vs H Q E h => ?_) (fun cdv A outer s H vs Q E hr h => ?_)
  · obtain ⟨r, q, rfl, _⟩ := h
    rfl
  · obtain ⟨r, q, rfl, R, q1, q8, w⟩ := h
    refine ⟨_, (pss_cons (ps_asg (pe_tup (pa_cons (pe_call0 G_l_letters (hr.mono (by first | decide | omega)) (by rfl) T.g_l_letters T.F_l_letters.kp T.b_l_letters .nil pass0) (pa_cons (pe_op op_add pe_int (pe_call G_l_draw (hr.mono (by first | decide | omega)) (by rfl) T.g_l_draw T.F_l_draw.kp T.b_l_draw .nil pass0 (pa_cons (pv 0) (pa_cons pe_int pa_nil)))) pa_nil))) (pg_tup rfl (pgs_cons (pg_name (i := 2) sc_l_names.nd rfl (by first | exact Or.inl rfl | exact Or.inr rfl)) (pgs_cons (pg_name (i := 3) sc_l_names.nd rfl (by first | exact Or.inl rfl | exact Or.inr rfl)) pgs_nil))))
          (pss_cons (ps_par (i := 4) (j := 5) (by rfl) sc_l_names.nd rfl rfl (by decide) rfl rfl (pa_cons (pe_call G_l_draw (hr.mono (by first | decide | omega)) (by rfl) T.g_l_draw T.F_l_draw.kp T.b_l_draw .nil pass0 (pa_cons (pv 0) (pa_cons (pv 3) pa_nil))) (pa_cons (pe_call G_l_draw (hr.mono (by first | decide | omega)) (by rfl) T.g_l_draw T.F_l_draw.kp T.b_l_draw .nil pass0 (pa_cons (pv 0) (pa_cons pe_int pa_nil))) pa_nil)) (by rfl))
          (pss_cons (ps_set (i := 6) sc_l_names.nd rfl (by first | exact Or.inl rfl | exact Or.inr rfl) (pe_call G_l_choice (hr.mono (by first | decide | omega)) (by rfl) T.g_l_choice T.F_l_choice.kp T.b_l_choice .nil pass0 (pa_cons (pv 0) (pa_cons (pe_lst (pa_cons pe_int (pa_cons pe_int (pa_cons pe_int (pa_cons pe_int (pa_cons pe_int pa_nil)))))) pa_nil))))
          (pss_cons (ps_set (i := 7) sc_l_names.nd rfl (by first | exact Or.inl rfl | exact Or.inr rfl) (pe_join pe_str (pe_lc (own := [("_law_k", 9)]) (g := gName 9) rfl sc_l_names.nd (pi_range1 (by rfl) T.n_range (pa_cons (pv 3) pa_nil)) (blkOk_by (own := [("_law_k", 9)]) (N := ["_law_rng", "_law_quantity", "_law_abc", "_law_width", "_law_pos", "_law_lead", "_law_step", "_law_base", "_law_result", "_law_k", "_law_sign", "_law_name", "_law_cut", "_law_spare"]) (sc := defScope s_l_names) (by decide +kernel)) (fun _ _ _ _ _ => (pg_name (i := 9) sc_l_names.nd rfl (Or.inl rfl))) (fun _ _ _ _ _ => pts_nil) (fun _ _ _ _ _ => (pe_call G_l_choice (hr.mono (by first | decide | omega)) (by rfl) T.g_l_choice T.F_l_choice.kp T.b_l_choice .nil pass0 (pa_cons (pv 0) (pa_cons (pv 2) pa_nil)))))))
          (pss_cons (ps_set (i := 8) sc_l_names.nd rfl (by first | exact Or.inl rfl | exact Or.inr rfl) (pe_lst pa_nil))
          (pss_cons (ps_for PassesOwn.never rfl (pi_range1 (by rfl) T.n_range (pa_cons (pv 1) pa_nil)) (pg_name (i := 9) sc_l_names.nd rfl (by first | exact Or.inl rfl | exact Or.inr rfl)) (pss_cons (ps_set (i := 10) sc_l_names.nd rfl (by first | exact Or.inl rfl | exact Or.inr rfl) (pe_ix ix_str (pv 2) (pe_op op_mod (pe_op op_add (pv 5) (pe_op op_mul (pv 6) (pv 9))) pe_int) (fun _ _ => rfl)))
          (pss_cons (ps_set (i := 11) sc_l_names.nd rfl (by first | exact Or.inl rfl | exact Or.inr rfl) (pe_op op_add_str (pe_op op_add_str (pe_slice sl_str (pv 7) po_none (po_some (pv 4))) (pv 10)) (pe_slice sl_str (pv 7) (po_some (pe_op op_add (pv 4) pe_int)) po_none)))
          (pss_cons (ps_set (i := 12) sc_l_names.nd rfl (by first | exact Or.inl rfl | exact Or.inr rfl) (pe_callB (call_max2 rfl) (by rfl) T.n_max (by decide +kernel) (pa_cons (pe_op op_add (pv 4) pe_int) (pa_cons (pe_op op_sub (pv 3) (pv 9)) pa_nil))))
          (pss_one (ps_expr (pe_bm PySem.F.plainAttrs_list PySem.F.slot_list_append PySem.F.type_list_append mt_append (pv 8) (pa_cons (pe_ifExp (pt_cmpR op_eq (pe_call G_l_draw (hr.mono (by first | decide | omega)) (by rfl) T.g_l_draw T.F_l_draw.kp T.b_l_draw .nil pass0 (pa_cons (pv 0) (pa_cons pe_int pa_nil))) pe_int (nomark _)) (pe_slice sl_str (pv 11) po_none (po_some (pv 12))) (pv 11)) pa_nil))))))))
          (pss_cons (ps_set (i := 13) sc_l_names.nd rfl (by first | exact Or.inl rfl | exact Or.inr rfl) (pe_lst (pa_cons pe_str (pa_cons pe_str (pa_cons pe_str (pa_cons pe_str (pa_cons pe_str (pa_cons pe_str (pa_cons pe_str (pa_cons pe_str pa_nil))))))))))
          (pss_one (ps_ret (pe_ifExp (pt_val (pe_call G_l_plain (hr.mono (by first | decide | omega)) (by rfl) T.g_l_plain T.F_l_plain.kp T.b_l_plain .nil pass0 (pa_cons (pv 8) pa_nil))) (pv 8) (pe_slice sl_list (pv 13) po_none (po_some (pv 1))))))))))))), ?_⟩
    have B40 : True := trivial
    refine ⟨rfl, .ref r, rfl, r, 6, rfl, R, by decide, by decide, fun wd H1 w0 w1 k1 R1 => ⟨1, wd, rfl, rfl, sz (by show 2 ≤ 100000; decide), fun tp ntp => ?_⟩⟩
    have st := Same.new (o := .tup [.str "abcdefghijklmnopqrstuvwxyz", .int (1 + wd)]) ntp
    refine ⟨tp, _, rfl, SqT.of upd_same, rfl, _, _, rfl, _, _, rfl, rfl, ?_⟩
    generalize upd H1 tp (.tup [.str "abcdefghijklmnopqrstuvwxyz", .int (1 + wd)]) = H2 at st
    have R2 := R1.same st
    have k2 := k1.trans (Kp.of st)
    refine ⟨.ref r, rfl, .int (1 + wd), rfl, r, 1 + wd, rfl, R2, by omega, by omega, fun ps H3 p0 p1 k3 R3 => ?_⟩
    refine ⟨.ref r, rfl, r, 26, rfl, R3, by decide, by decide, fun ld H4 l0 l1 k4 R4 => ?_⟩
    refine ⟨_, _, rfl, ?_⟩
    refine ⟨.ref r, rfl, sz (by show 5 ≤ 100000; decide), fun cl ncl => ?_⟩
    have sc := Same.new (o := .lst [.int 1, .int 3, .int 5, .int 7, .int 9]) ncl
    refine ⟨r, .ref cl, _, rfl, R4.same sc, .inl ⟨cl, rfl, R4.ne ncl, .inl (SqL.of upd_same)⟩, by show 0 < 5; decide, by show 5 ≤ 100000; decide, fun x hx H5 k5 R5 => ?_⟩
    obtain ⟨sp, rfl, sp0, sp1⟩ : ∃ j : Int, x = .int j ∧ 0 ≤ j ∧ j < 10 := by
      simp only [List.mem_cons, List.not_mem_nil, or_false] at hx
      rcases hx with h | h | h | h | h
      · exact ⟨1, h, by decide, by decide⟩
      · exact ⟨3, h, by decide, by decide⟩
      · exact ⟨5, h, by decide, by decide⟩
      · exact ⟨7, h, by decide, by decide⟩
      · exact ⟨9, h, by decide, by decide⟩
    have k05 := (k2.trans (k3.trans k4)).trans ((Kp.of sc).trans k5)
    -- the base
    refine ⟨⟨_, rfl⟩, .int (1 + wd), rfl, 1 + wd, rfl, by omega, by omega, fun D nD => ?_⟩
    have Dr : D ≠ r := R5.ne nD
    refine ⟨fun i m H6 => i + m = (1 + wd).toNat ∧ Kp r H5 H6 ∧ Rg H6 r ∧ ∃ ys : List Str, H6 D = some (.lst (ys.map V.str)) ∧ ys.length = i ∧ ∀ y ∈ ys, y.length = 1, ⟨(1 + wd).toNat, by omega, Kp.of (Same.new nD), R5.same (Same.new nD), [], upd_same, rfl, fun y hy => by cases hy⟩, fun i m H6 hW => ?_⟩
    obtain ⟨em, k6, R6, ys, hD, hyl, hy1⟩ := hW
    by_cases hi : i < (1 + wd).toNat
    · refine .inr ⟨hi, fun H7 => Kp r H5 H7 ∧ Rg H7 r ∧ ∃ ys : List Str, H7 D = some (.lst (ys.map V.str)) ∧ ys.length = i + 1 ∧ ∀ y ∈ ys, y.length = 1, fun H7 hN => ⟨m - 1, by omega, by omega, hN⟩, fun v H7 hy => ?_⟩
      obtain ⟨rfl, rfl⟩ := hy
      refine ⟨rfl, tYes_if ?_⟩
      refine ⟨.ref r, rfl, .str "abcdefghijklmnopqrstuvwxyz", rfl, r, .str "abcdefghijklmnopqrstuvwxyz", _, rfl, R6, .inr ⟨_, rfl, rfl⟩, by decide +kernel, by decide +kernel, fun x hx H8 k8 R8 => ?_⟩
      obtain ⟨c, _, rfl⟩ := List.mem_map.mp hx
      refine ⟨_, k8.1 _ _ Dr hD, by rw [List.length_map]; exact szl (by omega), (k6.trans k8).put (H := H5) nD Dr, R5.put nD (k6.trans k8) R8, ys ++ [⟨#[c]⟩], ?_, ?_, ?_⟩
      · rw [upd_same, List.map_append]; rfl
      · rw [List.length_append, hyl]; rfl
      · intro y hy
        rcases List.mem_append.mp hy with h | h
        · exact hy1 y h
        · rw [List.mem_singleton.mp h]; rfl
    have ei : i = (1 + wd).toNat := by omega
    subst ei
    refine .inl ⟨Nat.le_refl _, _, D, ys, rfl, rfl, .inl (SqL.of hD), ?_, ?_⟩
    · rw [ones_sum ys hy1]
      show ys.length + ys.length * 0 ≤ _
      omega
    have jl : (Txt.join "" ys).length = (1 + wd).toNat := by rw [jn_len ys hy1, hyl]
    generalize Txt.join "" ys = bs at jl
    have la := Str.length_append
    -- the names
    refine ⟨sz (by show 0 ≤ 100000; decide), fun rl nrl => ?_⟩
    have rlr : rl ≠ r := R6.ne nrl
    have sr := Same.new (o := .lst []) nrl
    refine ⟨.int (q : Nat), rfl, (q : Int), rfl, by omega, by omega, ?_⟩
    rw [Int.toNat_natCast]
    refine for_range (n := q) (fun i σ H7 => ∃ y9 y10 y11 y12, σ = [some (.ref r), some (.int (q : Nat)), some (.str "abcdefghijklmnopqrstuvwxyz"), some (.int (1 + wd)), some (.int ps), some (.int ld), some (.int sp), some (.str bs), some (.ref rl), y9, y10, y11, y12, none] ∧ Kp r H6 H7 ∧ Rg H7 r ∧ ∃ ss : List Str, H7 rl = some (.lst (ss.map V.str)) ∧ ss.length = i ∧ ∀ s ∈ ss, s.length ≤ 20) ⟨none, none, none, none, rfl, Kp.of sr, R6.same sr, [], upd_same, rfl, fun s hs => by cases hs⟩ ?_ ?_
    · rintro i σ H7 hi7 ⟨y9, y10, y11, y12, rfl, k7, R7, ss, hrl, hsl, hs⟩
      have z0 : 0 ≤ (ld + sp * (0 + (i : Int))) % 26 := Int.emod_nonneg _ (by decide)
      have z1 : (ld + sp * (0 + (i : Int))) % 26 < 26 := Int.emod_lt_of_pos _ (by decide)
      obtain ⟨c, hc, _⟩ := at_int (xs := (("abcdefghijklmnopqrstuvwxyz" : Str)).cps.toList) z0 (by rw [show (("abcdefghijklmnopqrstuvwxyz" : Str)).cps.toList.length = 26 by decide +kernel]; exact z1)
      refine ⟨.str "abcdefghijklmnopqrstuvwxyz", rfl, .int ld, rfl, .int sp, rfl, .int (0 + (i : Int)), rfl, sp, _, rfl, rfl, .inl ⟨by omega, by omega⟩, ld, _, rfl, rfl, _, 26, rfl, rfl, (show (0 : Int) < 26 by decide), _, _, c, rfl, rfl, by decide +kernel, hc, ?_⟩
      have c1 := cutS_length bs none (some ps)
      have c2 := cutS_length bs (some (ps + 1)) none
      have o1 : (⟨#[c]⟩ : Str).length = 1 := rfl
      refine ⟨.str bs, rfl, .int ps, rfl, ps, rfl, bs, rfl, sz (by omega), .str ⟨#[c]⟩, rfl, _, _, rfl, rfl, sz (by omega), .str bs, rfl, .int ps, rfl, _, _, rfl, rfl, _, rfl, bs, rfl, sz (by omega), _, _, rfl, rfl, sz (by rw [la]; omega), ?_⟩
      have nl : (cutS bs none (some ps) ++ ⟨#[c]⟩ ++ cutS bs (some (ps + 1)) none).length ≤ 20 := by rw [la, la]; omega
      generalize cutS bs none (some ps) ++ ⟨#[c]⟩ ++ cutS bs (some (ps + 1)) none = nm at nl
      refine ⟨.int ps, rfl, _, _, rfl, rfl, .int (1 + wd), rfl, .int (0 + (i : Int)), rfl, _, _, rfl, rfl, _, _, rfl, ?_⟩
      have c3 := fun j => cutS_length nm none (some j)
      have fin : ∀ (v : Str) (H8 : Hp), v.length ≤ 20 → Kp r H7 H8 → Rg H8 r → rAppend (.ref rl) [.str v] H8 (fun _ H9 => ∃ (y9 y10 y11 y12 : Option V), ([some (.ref r), some (.int (q : Nat)), some (.str "abcdefghijklmnopqrstuvwxyz"), some (.int (1 + wd)), some (.int ps), some (.int ld), some (.int sp), some (.str bs), some (.ref rl), some (.int (0 + (i : Int))), some (.str ⟨#[c]⟩), some (.str nm), some (.int (if 1 + wd - (0 + (i : Int)) > ps + 1 then 1 + wd - (0 + (i : Int)) else ps + 1)), none] : List (Option V)) = [some (.ref r), some (.int (q : Nat)), some (.str "abcdefghijklmnopqrstuvwxyz"), some (.int (1 + wd)), some (.int ps), some (.int ld), some (.int sp), some (.str bs), some (.ref rl), y9, y10, y11, y12, none] ∧ Kp r H6 H9 ∧ Rg H9 r ∧ ∃ ss : List Str, H9 rl = some (.lst (ss.map V.str)) ∧ ss.length = i + 1 ∧ ∀ s ∈ ss, s.length ≤ 20) := by
        intro v H8 lv k8 R8
        have h8 := k8.1 _ _ rlr hrl
        refine ⟨rl, _, _, rfl, rfl, h8, by rw [List.length_map]; exact szl (by omega), _, _, _, _, rfl, (k7.trans k8).put (H := H6) nrl rlr, R6.put nrl (k7.trans k8) R8, ss ++ [v], by rw [upd_same, List.map_append]; rfl, by rw [List.length_append, hsl]; rfl, fun s hs' => ?_⟩
        rcases List.mem_append.mp hs' with z | z
        · exact hs s z
        · rw [List.mem_singleton.mp z]; exact lv
      refine ⟨.ref rl, rfl, .inl ⟨rfl, _, SqL.of hrl⟩, .ref r, rfl, r, 3, rfl, R7, by decide, by decide, fun z H8 y0 y1 k8 R8 => ⟨rfl, _, rfl, ite2 (fun e => ?_) (fun e => ?_)⟩⟩
      · exact ⟨.str nm, rfl, .int _, rfl, _, rfl, nm, rfl, sz (by omega), fin _ H8 (Nat.le_trans (c3 _) nl) k8 R8⟩
      · exact ⟨.str nm, rfl, fin _ H8 nl k8 R8⟩
    · rintro σ H7 ⟨y9, y10, y11, y12, rfl, k7, R7, ss, hrl, hsl, hs⟩
      refine ⟨sz (by show 8 ≤ 100000; decide), fun sl nsl => ?_⟩
      have ssl := Same.new (o := .lst (spare.map V.str)) nsl
      have R8 : Rg (upd H7 sl (.lst (spare.map V.str))) r := R7.same ssl
      have k07 := (k05.trans k6).trans (k7.trans (Kp.of ssl))
      refine ⟨.ref rl, rfl, rl, ss, rfl, SqL.of (ssl _ _ hrl), by omega, fun s h => Nat.le_trans (hs s h) (by decide), fun b H8 s8 hb => ⟨b, rfl, ?_⟩⟩
      cases b with
      | true =>
        obtain ⟨n1, n2⟩ := hb rfl
        exact iteT ⟨.ref rl, rfl, w rl H8 ss (k07.trans (Kp.of s8)) (R8.same s8) (s8 _ _ (ssl _ _ hrl)) rlr (by omega) n1 n2⟩
      | false =>
        refine iteF ⟨.ref sl, rfl, .int (q : Nat), rfl, (q : Int), rfl, sl, _, rfl, SqL.of (s8 _ _ upd_same), fun p np => ?_⟩
        rw [cut_to _ q (by show q ≤ 8; exact q8)]
        have sp9 := Same.new (o := .lst ((spare.map V.str).take q)) np
        refine w p _ (spare.take q) ((k07.trans (Kp.of s8)).trans (Kp.of sp9)) ((R8.same s8).same sp9) (by rw [upd_same, List.map_take]; rfl) ((R8.same s8).ne np) ?_ ?_ fun s h => spare_nm s (List.mem_of_mem_take h)
        · rw [List.length_take]
          show min q 8 = q
          omega
        · exact spare_nd.sublist (List.take_sublist _ _)
end
section
variable {P : Program} {w : World} {K : PySem.W.Frag} {mg : Str → Option Value} {base : Heap} {a : Ad}
def sp_l_operands (K : PySem.W.Frag) : Sp := spSubsR K

theorem ok_l_operands (T : Txt K mg a) : FnOk P w K mg base CX0 1 a.f_l_operands a.fd_l_operands ["_law_term_here"] (sp_l_operands K) := by
  refine T.F_l_operands.ok sc_l_operands (fun vs H Q E h => ?_) (fun cdv A outer s H vs Q E hr h => ?_)
  · obtain ⟨v, t, n, rfl, _⟩ := h
    rfl
  · obtain ⟨v, t, n, rfl, ht, w⟩ := h
    refine ⟨_, (pss_cons (ps_if (pt_cmpR op_eq (pe_ix ix_tup (pv 0) pe_int (fun _ _ => rfl)) pe_str (nomark _)) (pss_one (ps_ret (pe_lst pa_nil))) pss_nil)
          (pss_cons (ps_if (pt_cmpR op_eq (pe_ix ix_tup (pv 0) pe_int (fun _ _ => rfl)) pe_str (nomark _)) (pss_one (ps_ret (pe_lst (pa_cons (pe_ix ix_tup (pv 0) pe_int (fun _ _ => rfl)) pa_nil)))) pss_nil)
          (pss_cons (ps_if (pt_cmpR op_eq (pe_ix ix_tup (pv 0) pe_int (fun _ _ => rfl)) pe_str (nomark _)) (pss_one (ps_ret (pe_lc (own := [("_law_share", 1), ("_law_one", 2)]) (g := gTup K 2 (gCons (gName 1) (gCons (gName 2) gNil))) rfl sc_l_operands.nd (pi_tup (pe_slice sl_tup (pv 0) (po_some pe_int) po_none)) (blkOk_by (own := [("_law_share", 1), ("_law_one", 2)]) (N := ["_law_term_here", "_law_share", "_law_one"]) (sc := defScope s_l_operands) (by decide +kernel)) (fun _ _ _ _ _ => (pg_tup rfl (pgs_cons (pg_name (i := 1) sc_l_operands.nd rfl (Or.inl rfl)) (pgs_cons (pg_name (i := 2) sc_l_operands.nd rfl (Or.inl rfl)) pgs_nil)))) (fun _ _ _ _ _ => pts_nil) (fun _ _ _ _ _ => (pv 2))))) pss_nil)
          (pss_one (ps_ret (pe_callTy call_list_of (by rfl) T.n_list (by decide +kernel) (pa_cons (pe_slice sl_tup (pv 0) (po_some pe_int) po_none) pa_nil))))))), ?_⟩
    obtain ⟨k, ts⟩ := t
    obtain ⟨l60, xs, hN, hA⟩ := ht
    have hlen := hA.1
    match k, hN with
    | .ev ss, ⟨ex, _, _, p, e, hp⟩ =>
      subst e ex
      have e0 : ts = [] := List.length_eq_zero_iff.mp hlen.symm
      subst e0
      refine ⟨.ref p, rfl, p, _, 0, _, rfl, rfl, hp, atI_nat (j := 0) rfl, rfl, _, rfl, ifT (decide_eq_true rfl) ?_⟩
      exact ⟨sz (by show 0 ≤ 100000; decide), fun l nl => w l _ [] (Same.new nl) nl upd_same All3.nil⟩
    | .dl none, ⟨p, x, ex, e, hp⟩ =>
      subst e ex
      refine ⟨.ref p, rfl, p, _, 0, _, rfl, rfl, hp, atI_nat (j := 0) rfl, rfl, _, rfl, ifF (str_no (by decide +kernel)) ⟨.ref p, rfl, p, _, 0, _, rfl, rfl, hp, atI_nat (j := 0) rfl, rfl, _, rfl, ifT (decide_eq_true rfl) ?_⟩⟩
      exact ⟨.ref p, rfl, p, _, 1, _, rfl, rfl, hp, rfl, sz (by show 1 ≤ 100000; decide), fun l nl => w l _ [x] (Same.new nl) nl upd_same (hA.mono fun _ _ z => z.same (Same.new nl))⟩
    | .dl (some f), ⟨p, x, fv, ex, e, hp, _⟩ =>
      subst e ex
      refine ⟨.ref p, rfl, p, _, 0, _, rfl, rfl, hp, atI_nat (j := 0) rfl, rfl, _, rfl, ifF (str_no (by decide +kernel)) ⟨.ref p, rfl, p, _, 0, _, rfl, rfl, hp, atI_nat (j := 0) rfl, rfl, _, rfl, ifT (decide_eq_true rfl) ?_⟩⟩
      exact ⟨.ref p, rfl, p, _, 1, _, rfl, rfl, hp, rfl, sz (by show 1 ≤ 100000; decide), fun l nl => w l _ [x] (Same.new nl) nl upd_same (hA.mono fun _ _ z => z.same (Same.new nl))⟩
    | .mx ws, ⟨p, ys, e, hp, l1, l2, hm⟩ =>
      subst e
      refine ⟨.ref p, rfl, p, _, 0, _, rfl, rfl, hp, atI_nat (j := 0) rfl, rfl, _, rfl, ifF (str_no (by decide +kernel)) ⟨.ref p, rfl, p, _, 0, _, rfl, rfl, hp, atI_nat (j := 0) rfl, rfl, _, rfl, ifF (str_no (by decide +kernel)) ⟨.ref p, rfl, p, _, 0, _, rfl, rfl, hp, atI_nat (j := 0) rfl, rfl, _, rfl, ifT (decide_eq_true rfl) ?_⟩⟩⟩
      refine ⟨.ref p, rfl, 1, rfl, p, _, rfl, hp, not_whole _ _, fun c nc => ?_⟩
      rw [cut_one]
      have sc := Same.new (o := .tup ys) nc
      refine ⟨c, rfl, ⟨_, SqT.of upd_same⟩, fun D nD => ?_⟩
      have nD0 : H D = none := sc.free nD
      have cD : c ≠ D := ne_of_none upd_same nD
      refine lc_tup (K := K) (a := c) (xs := ys) (fun i H1 => Same H H1 ∧ H1 c = some (.tup ys) ∧ H1 D = some (.lst (xs.take i))) ⟨sc.trans (Same.new nD), by rw [upd_ne cD]; exact upd_same, upd_same⟩ (fun i H1 _ h1 => SqT.of h1.2.1) ?_ ?_
      · rintro i y H1 hy ⟨s1, hc, hD⟩
        have il : i < ys.length := (List.getElem?_eq_some_iff.mp hy).1
        have hx : xs[i]? = some (xs[i]'(by omega)) := List.getElem?_eq_getElem _
        have hf : ws[i]? = some (ws[i]'(by omega)) := List.getElem?_eq_getElem _
        obtain ⟨q, wv, rfl, hq, _⟩ := hm i y _ _ hy hx hf
        have hq1 := Same.T s1 hq
        refine ⟨q, _, rfl, hq1, rfl, _, _, rfl, _, _, rfl, rfl, rfl, tYes_if ?_⟩
        refine ⟨_, rfl, ?_⟩
        refine ⟨_, hD, ?_, fun b o e => ?_, ?_, ?_⟩
        · rw [List.length_take]; exact szl (by omega)
        · rw [upd_ne (ne_of_none e nD0)]; exact s1 _ _ e
        · rw [upd_ne cD]; exact hc
        · rw [upd_same, List.take_add_one, hx]; rfl
      · rintro H1 ⟨s1, hc, hD⟩
        rw [show ys.length = xs.length from l1, List.take_length] at hD
        exact w D H1 xs s1 nD0 hD (hA.mono fun _ _ z => z.same s1)
    | .nn kk, ⟨n1, n2, n3, p, e, hp⟩ =>
      subst e
      refine ⟨.ref p, rfl, p, _, 0, _, rfl, rfl, hp, atI_nat (j := 0) rfl, rfl, _, rfl, ifF (decide_eq_false fun y => n1 (V.str.inj y)) ⟨.ref p, rfl, p, _, 0, _, rfl, rfl, hp, atI_nat (j := 0) rfl, rfl, _, rfl, ifF (decide_eq_false fun y => n2 (V.str.inj y)) ⟨.ref p, rfl, p, _, 0, _, rfl, rfl, hp, atI_nat (j := 0) rfl, rfl, _, rfl, ifF (decide_eq_false fun y => n3 (V.str.inj y)) ?_⟩⟩⟩
      refine ⟨.ref p, rfl, 1, rfl, p, _, rfl, hp, not_whole _ _, fun c nc => ?_⟩
      rw [cut_one]
      have sc := Same.new (o := .tup xs) nc
      refine ⟨c, xs, rfl, .inr (SqT.of upd_same), fun l nl => ?_⟩
      have s2 := sc.trans (Same.new (o := .lst xs) nl)
      exact w l _ xs s2 (sc.free nl) upd_same (hA.mono fun _ _ z => z.same s2)
end
section
variable {P : Program} {w : World} {K : PySem.W.Frag} {mg : Str → Option Value} {base : Heap} {a : Ad}
def sp_l_shares (K : PySem.W.Frag) : Sp := fun vs H Q _ => ∃ (r : Addr) (q : Nat), vs = [.ref r, .int (q : Nat)] ∧ Rg H r ∧ q ≤ 6 ∧ ∀ l H' xs ws, Kp r H H' → Rg H' r → H' l = some (.lst xs) → l ≠ r → Frs K H' xs ws 40 → ws.length = q → ShW ws → Q (.ref l) H'
theorem sum_pos : ∀ {is : List Int}, (∀ i ∈ is, 1 ≤ i ∧ i ≤ 4) → (is.length : Int) ≤ is.sum ∧ is.sum ≤ 4 * (is.length : Int)
  | [], _ => by simp
  | i :: is, h => by
    have h1 := h i List.mem_cons_self
    have h2 := sum_pos (is := is) fun j hj => h j (List.mem_cons_of_mem _ hj)
    rw [List.sum_cons, List.length_cons]
    omega

theorem ok_l_shares (T : Txt K mg a) : FnOk P w K mg base CX0 2 a.f_l_shares a.fd_l_shares ["_law_rng", "_law_quantity"] (sp_l_shares K) := by
  have G_l_reduce := ok_l_reduce (P := P) (w := w) (base := base) T
  have G_l_draw := ok_l_draw (P := P) (w := w) (base := base) T
  refine T.F_l_shares.ok sc_l_shares (fun vs H Q E h => ?_) (fun cdv A outer s H vs Q E hr h => ?_)
  · obtain ⟨r, q, rfl, _⟩ := h
    rfl
  · obtain ⟨r, q, rfl, R, hq, w⟩ := h
    refine ⟨_, (pss_cons (ps_set (i := 2) sc_l_shares.nd rfl (by first | exact Or.inl rfl | exact Or.inr rfl) (pe_lc (own := [("_law_k", 3)]) (g := gName 3) rfl sc_l_shares.nd (pi_range1 (by rfl) T.n_range (pa_cons (pv 1) pa_nil)) (blkOk_by (own := [("_law_k", 3)]) (N := ["_law_rng", "_law_quantity", "_law_weights", "_law_k", "_law_one"]) (sc := defScope s_l_shares) (by decide +kernel)) (fun _ _ _ _ _ => (pg_name (i := 3) sc_l_shares.nd rfl (Or.inl rfl))) (fun _ _ _ _ _ => pts_nil) (fun _ _ _ _ _ => (pe_op op_add pe_int (pe_call G_l_draw (hr.mono (by first | decide | omega)) (by rfl) T.g_l_draw T.F_l_draw.kp T.b_l_draw .nil pass0 (pa_cons (pv 0) (pa_cons pe_int pa_nil)))))))
          (pss_one (ps_ret (pe_lc (own := [("_law_one", 4)]) (g := gName 4) rfl sc_l_shares.nd (pi_list (pv 2)) (blkOk_by (own := [("_law_one", 4)]) (N := ["_law_rng", "_law_quantity", "_law_weights", "_law_k", "_law_one"]) (sc := defScope s_l_shares) (by decide +kernel)) (fun _ _ _ _ _ => (pg_name (i := 4) sc_l_shares.nd rfl (Or.inl rfl))) (fun _ _ _ _ _ => pts_nil) (fun _ _ _ _ _ => (pe_call G_l_reduce (hr.mono (by first | decide | omega)) (by rfl) T.g_l_reduce T.F_l_reduce.kp T.b_l_reduce .nil pass0 (pa_cons (pv 4) (pa_cons (pe_callB (crSumK (K := K) rfl rfl) (by rfl) T.n_sum (by decide +kernel) (pa_cons (pv 2) pa_nil)) pa_nil)))))))), ?_⟩
    refine ⟨.int (q : Nat), rfl, (q : Int), rfl, by omega, by omega, fun D nD => ?_⟩
    have Dr : D ≠ r := R.ne nD
    refine ⟨fun i m H3 => i + m = q ∧ Kp r H H3 ∧ Rg H3 r ∧ ∃ is : List Int, H3 D = some (.lst (is.map V.int)) ∧ is.length = i ∧ ∀ j ∈ is, 1 ≤ j ∧ j ≤ 4, ⟨q, by omega, Kp.of (Same.new nD), R.same (Same.new nD), [], upd_same, rfl, fun j hj => by cases hj⟩, fun i m H3 hW => ?_⟩
    obtain ⟨em, k3, R3, is, hD, hl, hi⟩ := hW
    by_cases hlt : i < q
    · refine .inr ⟨(show i < ((q : Nat) : Int).toNat by omega), fun H4 => Kp r H H4 ∧ Rg H4 r ∧ ∃ is : List Int, H4 D = some (.lst (is.map V.int)) ∧ is.length = i + 1 ∧ ∀ j ∈ is, 1 ≤ j ∧ j ≤ 4, fun H4 hN => ⟨m - 1, by omega, by omega, hN⟩, fun v H4 hy => ?_⟩
      obtain ⟨rfl, rfl⟩ := hy
      refine ⟨rfl, tYes_if ?_⟩
      refine ⟨.ref r, rfl, r, 4, rfl, R3, by decide, by decide, fun x H5 x0 x1 k5 R5 => ?_⟩
      refine ⟨1, x, rfl, rfl, _, k5.1 _ _ Dr hD, by rw [List.length_map]; exact szl (by omega), (k3.trans k5).put (H := H) nD Dr, R.put nD (k3.trans k5) R5, is ++ [1 + x], ?_, ?_, ?_⟩
      · rw [upd_same, List.map_append]; rfl
      · rw [List.length_append, hl]; rfl
      · intro j hj
        rcases List.mem_append.mp hj with h | h
        · exact hi j h
        · rw [List.mem_singleton.mp h]; omega
    · have ei : i = q := by omega
      subst ei
      refine .inl ⟨(show ((i : Nat) : Int).toNat ≤ i by omega), ?_⟩
      have sp := sum_pos hi
      refine ⟨.ref D, rfl, D, rfl, ⟨_, SqL.of hD⟩, fun L nL => ?_⟩
      have Lr : L ≠ r := R3.ne nL
      refine lc_list (K := K) (a := D) (xs := is.map V.int) (fun j H4 => Same H3 H4 ∧ ∃ xs, H4 L = some (.lst xs) ∧ Frs K H4 xs ((is.take j).map fun z => red z is.sum) 40) ⟨Same.new nL, [], upd_same, Frs.nil'⟩ (fun j H4 _ z => SqL.of (z.1 _ _ hD)) ?_ ?_
      · rintro j y H4 hy ⟨s4, xs, hL, hF⟩
        obtain ⟨z, hz, rfl⟩ : ∃ z, is[j]? = some z ∧ y = V.int z := by
          rw [List.getElem?_map] at hy
          cases e : is[j]? with
          | none => rw [e] at hy; cases hy
          | some z => rw [e] at hy; exact ⟨z, rfl, (Option.some.inj hy).symm⟩
        have zb := hi z (List.mem_of_getElem? hz)
        have jl : j < is.length := (List.getElem?_eq_some_iff.mp hz).1
        have B : (2 : Nat) ^ 40 = 1099511627776 := by decide
        refine ⟨rfl, tYes_if ?_⟩
        refine ⟨.int z, rfl, .ref D, rfl, D, is, rfl, SqL.of (s4 _ _ hD), z, is.sum, rfl, by omega, Nat.lt_of_lt_of_le (show is.sum.natAbs < 2 ^ 40 by omega) (Nat.pow_le_pow_right (by decide) (by decide)), fun p np => ?_⟩
        have sp4 := Same.new (o := .tup [.int (red z is.sum).1, .int (red z is.sum).2]) np
        have fz := red_B (K := K) (H := H4) (p := p) (n := z) (d := is.sum) (B := 40) (by omega) (by omega) (by omega)
        have hL4 := sp4 _ _ hL
        have xl : xs.length = j := by rw [hF.1, List.length_map, List.length_take]; omega
        refine ⟨xs, hL4, by rw [xl]; exact szl (by omega), fun b o e => ?_, xs ++ [.ref p], upd_same, ?_⟩
        · rw [upd_ne (ne_of_none e nL)]; exact sp4 _ _ (s4 _ _ e)
        · rw [tk_more hz]
          exact ((hF.same sp4).app' (Frs.one' fz)).put' hL4
      · rintro H4 ⟨s4, xs, hL, hF⟩
        rw [List.length_map, List.take_length] at hF
        refine w L H4 xs _ (k3.trans (Kp.of s4)) (R3.same s4) hL Lr hF (by rw [List.length_map, hl]) ⟨is, hi, by omega, rfl⟩
end
section
variable {P : Program} {w : World} {K : PySem.W.Frag} {mg : Str → Option Value} {base : Heap} {a : Ad}
def spTerm (K : PySem.W.Frag) : Nat → Sp
  | 0 => fun _ _ _ _ => False
  | n + 1 => fun vs H Q _ => ∃ (r nl : Addr) (ss : List Str) (d : Int), vs = [.ref r, .ref nl, .int d] ∧ Rg H r ∧ nl ≠ r ∧ SqL K H nl (ss.map V.str) ∧ 0 < ss.length ∧ ss.length ≤ 60 ∧ ∃ m, m ≤ n ∧ d ≤ (m : Int) + 1 ∧ ∀ v H' t, Kp r H H' → Rg H' r → TmAt K H' (m + 1) v t → Good ss (m + 1) t → Q v H'
def sp_l_term (K : PySem.W.Frag) : Sp := spTerm K 4
/-- terms drawn one by one into the list at D -/
def Drawn1 (K : PySem.W.Frag) (ss : List Str) (n : Nat) (r D : Addr) (H0 : Hp) (i : Nat) (H3 : Hp) : Prop := Kp r H0 H3 ∧ Rg H3 r ∧ ∃ xs ts, H3 D = some (.lst xs) ∧ xs.length = i ∧ All2 (TmAt K H3 n) xs ts ∧ ∀ t ∈ ts, Good ss n t
theorem Drawn1.start {K : PySem.W.Frag} {ss : List Str} {n : Nat} {r D : Addr} {H0 : Hp} (R : Rg H0 r) (nD : H0 D = none) : Drawn1 K ss n r D H0 0 (upd H0 D (.lst [])) :=
  ⟨Kp.of (Same.new nD), R.same (Same.new nD), [], [], upd_same, rfl, All2.nil, fun t h => by cases h⟩
theorem Drawn1.more {K : PySem.W.Frag} {ss : List Str} {n : Nat} {r D : Addr} {H0 H3 H5 : Hp} {i : Nat} {x : V} {t : Tm} (R : Rg H0 r) (nD : H0 D = none) (hi : i < 1000) (h : Drawn1 K ss n r D H0 i H3) (k5 : Kp r H3 H5) (R5 : Rg H5 r) (ht : TmAt K H5 n x t) (hg : Good ss n t) :
    ∃ acc, H5 D = some (.lst acc) ∧ acc.length < sizeLine ∧ Drawn1 K ss n r D H0 (i + 1) (upd H5 D (.lst (acc ++ [x]))) := by
  obtain ⟨k3, R3, xs, ts, hD, hl, hA, hG⟩ := h
  have Dr : D ≠ r := R.ne nD
  have hD5 := k5.1 _ _ Dr hD
  refine ⟨xs, hD5, by rw [hl]; exact szl (by omega), (k3.trans k5).put (H := H0) nD Dr, R.put nD (k3.trans k5) R5, xs ++ [x], ts ++ [t], upd_same, by rw [List.length_append, hl]; rfl, ?_, fun u hu => ?_⟩
  · exact ((hA.mono fun _ _ z => z.kp R3 k5).snoc ht).mono fun _ _ z => z.put hD5
  · rcases List.mem_append.mp hu with z | z
    · exact hG u z
    · rw [List.mem_singleton.mp z]; exact hg

theorem ok_l_term_n (T : Txt K mg a) : ∀ n, FnOk P w K mg base CX0 (n + 4) a.f_l_term a.fd_l_term ["_law_rng", "_law_names_here", "_law_deep"] (spTerm K n)
  | 0 => fn_false
  | n + 1 => by
    have G_l_draw := ok_l_draw (P := P) (w := w) (base := base) T
    have G_l_choice := ok_l_choice (P := P) (w := w) (base := base) T
    have G_l_small := ok_l_small (P := P) (w := w) (base := base) T
    have G_l_shares := ok_l_shares (P := P) (w := w) (base := base) T
    have G_l_term := ok_l_term_n T n
    refine T.F_l_term.ok sc_l_term (fun vs H Q E h => ?_) (fun cdv A outer s H vs Q E hr h => ?_)
    · obtain ⟨r, nl, ss, d, rfl, _⟩ := h
      rfl
    obtain ⟨r, nl, ss, d, rfl, R, nlr, hS, s0, s1, m, mn, hd, w⟩ := h
    refine ⟨_, (pss_cons (ps_set (i := 3) sc_l_term.nd rfl (by first | exact Or.inl rfl | exact Or.inr rfl) (pe_call G_l_draw (hr.mono (by first | decide | omega)) (by rfl) T.g_l_draw T.F_l_draw.kp T.b_l_draw .nil pass0 (pa_cons (pv 0) (pa_cons pe_int pa_nil))))
      (pss_cons (ps_if (PW.pt (pw_or (pt_cmpR op_lt (pv 2) pe_int (nomark _)) (pw_or1 (pt_cmpR op_eq (pv 3) pe_int (nomark _))))) (pss_one (ps_ret (pe_tup (pa_cons pe_str (pa_cons (pe_call G_l_choice (hr.mono (by first | decide | omega)) (by rfl) T.g_l_choice T.F_l_choice.kp T.b_l_choice .nil pass0 (pa_cons (pv 0) (pa_cons (pv 1) pa_nil))) pa_nil))))) pss_nil)
      (pss_cons (ps_if (pt_cmpR op_lt (pv 3) pe_int (nomark _)) (pss_one (ps_ret (pe_tup (pa_cons pe_str (pa_cons (pe_call G_l_term (hr.mono (by first | decide | omega)) (by rfl) T.g_l_term T.F_l_term.kp T.b_l_term .nil pass0 (pa_cons (pv 0) (pa_cons (pv 1) (pa_cons (pe_op op_sub (pv 2) pe_int) pa_nil)))) (pa_cons (pe_call G_l_small (hr.mono (by first | decide | omega)) (by rfl) T.g_l_small T.F_l_small.kp T.b_l_small .nil pass0 (pa_cons (pv 0) pa_nil)) pa_nil)))))) pss_nil)
      (pss_cons (ps_if (pt_cmpR op_eq (pv 3) pe_int (nomark _)) (pss_one (ps_ret (pe_callTy call_tuple_of (by rfl) T.n_tuple (by decide +kernel) (pa_cons (pe_op op_cat (pe_lst (pa_cons pe_str pa_nil)) (pe_lc (own := [("_law_k", 6)]) (g := gName 6) rfl sc_l_term.nd (pi_range1 (by rfl) T.n_range (pa_cons pe_int pa_nil)) (blkOk_by (own := [("_law_k", 6)]) (N := ["_law_rng", "_law_names_here", "_law_deep", "_law_pick", "_law_quantity", "_law_parts", "_law_k", "_law_share", "_law_one"]) (sc := defScope s_l_term) (by decide +kernel)) (fun _ _ _ _ _ => (pg_name (i := 6) sc_l_term.nd rfl (Or.inl rfl))) (fun _ _ _ _ _ => pts_nil) (fun _ _ _ _ _ => (pe_call G_l_term (hr.mono (by first | decide | omega)) (by rfl) T.g_l_term T.F_l_term.kp T.b_l_term .nil pass0 (pa_cons (pv 0) (pa_cons (pv 1) (pa_cons (pe_op op_sub (pv 2) pe_int) pa_nil))))))) pa_nil)))) pss_nil)
      (pss_cons (ps_set (i := 4) sc_l_term.nd rfl (by first | exact Or.inl rfl | exact Or.inr rfl) (pe_op op_add pe_int (pe_call G_l_draw (hr.mono (by first | decide | omega)) (by rfl) T.g_l_draw T.F_l_draw.kp T.b_l_draw .nil pass0 (pa_cons (pv 0) (pa_cons pe_int pa_nil)))))
      (pss_cons (ps_setLc (i := 5) (own := [("_law_k", 6)]) (g := gName 6) rfl sc_l_term.nd rfl rfl (sw_true rfl rfl rfl (by decide +kernel)) (pi_range1 (by rfl) T.n_range (pa_cons (pv 4) pa_nil)) (blkOk_by (own := [("_law_k", 6)]) (N := ["_law_rng", "_law_names_here", "_law_deep", "_law_pick", "_law_quantity", "_law_parts", "_law_k", "_law_share", "_law_one"]) (sc := defScope s_l_term) (by decide +kernel)) (fun _ _ _ _ _ => (pg_name (i := 6) sc_l_term.nd rfl (Or.inl rfl))) (fun _ _ _ _ _ => pts_nil) (fun _ _ _ _ _ => (pe_call G_l_term (hr.mono (by first | decide | omega)) (by rfl) T.g_l_term T.F_l_term.kp T.b_l_term .nil pass0 (pa_cons (pv 0) (pa_cons (pv 1) (pa_cons (pe_op op_sub (pv 2) pe_int) pa_nil))))))
      (pss_cons (ps_if (pt_cmpR op_eq (pv 3) pe_int (nomark _)) (pss_one (ps_ret (pe_callTy call_tuple_of (by rfl) T.n_tuple (by decide +kernel) (pa_cons (pe_op op_cat (pe_lst (pa_cons pe_str pa_nil)) (pe_lc (own := [("_law_share", 7), ("_law_one", 8)]) (g := gTup K 2 (gCons (gName 7) (gCons (gName 8) gNil))) rfl sc_l_term.nd (RZ.pi_zipA (by rfl) T.n_zip (pa_cons (pe_call G_l_shares (hr.mono (by first | decide | omega)) (by rfl) T.g_l_shares T.F_l_shares.kp T.b_l_shares .nil pass0 (pa_cons (pv 0) (pa_cons (pv 4) pa_nil))) (pa_cons (pv 5) pa_nil))) (blkOk_by (own := [("_law_share", 7), ("_law_one", 8)]) (N := ["_law_rng", "_law_names_here", "_law_deep", "_law_pick", "_law_quantity", "_law_parts", "_law_k", "_law_share", "_law_one"]) (sc := defScope s_l_term) (by decide +kernel)) (fun _ _ _ _ _ => (pg_tup rfl (pgs_cons (pg_name (i := 7) sc_l_term.nd rfl (Or.inl rfl)) (pgs_cons (pg_name (i := 8) sc_l_term.nd rfl (Or.inl rfl)) pgs_nil)))) (fun _ _ _ _ _ => pts_nil) (fun _ _ _ _ _ => (pe_tup (pa_cons (pv 7) (pa_cons (pv 8) pa_nil)))))) pa_nil)))) pss_nil)
      (pss_one (ps_ret (pe_callTy call_tuple_of (by rfl) T.n_tuple (by decide +kernel) (pa_cons (pe_op op_cat (pe_lst (pa_cons (pe_ix ix_list (pe_lst (pa_cons pe_str (pa_cons pe_str (pa_cons pe_str pa_nil)))) (pe_op op_sub (pv 3) pe_int) (fun _ _ => rfl)) pa_nil)) (pv 5)) pa_nil))))))))))), ?_⟩
    refine ⟨.ref r, rfl, r, 9, rfl, R, by decide, by decide, fun pk H1 p0 p1 k1 R1 => ?_⟩
    have hS1 := k1.L nlr hS
    -- an event
    have leaf : ∀ (Q' : VK), (∀ v H', Q v H' → Q' v H') → (tTup (tCons (tC (V.str "event")) (tCons (tCall (sp_l_choice K) [] E0 (tCons (tVar 0) (tCons (tVar 1) tNil))) tNil))) [some (.ref r), some (.ref nl), some (.int d), some (.int pk), none, none, none, none, none] H1 Q' := by
      intro Q' hQ
      refine ⟨.ref r, rfl, .ref nl, rfl, r, .ref nl, _, rfl, R1, .inl ⟨nl, rfl, nlr, .inl hS1⟩, by rw [List.length_map]; exact s0, by rw [List.length_map]; omega, fun x hx H2 k2 R2 => ?_⟩
      obtain ⟨q, hq, rfl⟩ := List.mem_map.mp hx
      refine ⟨sz (by show 2 ≤ 100000; decide), fun p np => hQ _ _ ?_⟩
      have sp := Same.new (o := .tup [.str "event", .str q]) np
      exact w _ _ (.ev q) ((k1.trans k2).trans (Kp.of sp)) (R2.same sp) ⟨p, rfl, SqT.of upd_same⟩ hq
    refine ⟨.int d, rfl, d, 2, rfl, rfl, _, rfl, ite2 (fun e => iteT (leaf _ fun _ _ z => z)) (fun e => ?_)⟩
    have d2 : 2 ≤ d := by
      by_cases z : d < 2
      · exact absurd (decide_eq_true z) e
      · omega
    refine ⟨.int pk, rfl, rfl, _, rfl, ite2 (fun e0 => leaf _ fun _ _ z => z) (fun e0 => ?_)⟩
    cases m with
    | zero => exfalso; omega
    | succ m =>
     cases n with
     | zero => exact absurd mn (by omega)
     | succ n' =>
      have hd1 : d - 1 ≤ (m : Int) + 1 := by omega
      have mn1 : m ≤ n' := by omega
      refine ⟨.int pk, rfl, pk, 4, rfl, rfl, _, rfl, ite2 (fun e1 => ?_) (fun e1 => ?_)⟩
      · -- a delay
        refine ⟨.ref r, rfl, .ref nl, rfl, .int d, rfl, d, 1, rfl, rfl, r, nl, ss, d - 1, rfl, R1, nlr, hS1, s0, s1, m, mn1, hd1, fun v2 H2 t2 k2 R2 m2 g2 => ?_⟩
        refine ⟨.ref r, rfl, r, rfl, R2, fun v3 H3 n3 d3 k3 R3 f3 => ⟨sz (by show 3 ≤ 100000; decide), fun p np => ?_⟩⟩
        have sp := Same.new (o := .tup [.str "delay", v2, v3]) np
        refine w _ _ (.nd (.delay (n3, d3)) [t2]) (((k1.trans k2).trans k3).trans (Kp.of sp)) (R3.same sp) ⟨[v2], ⟨p, v2, v3, rfl, rfl, SqT.of upd_same, (f3.up' (by decide)).same sp⟩, All2.one ((m2.kp R2 k3).same sp)⟩ ⟨⟨rfl, f3.dls⟩, fun t ht => ?_⟩
        rw [List.mem_singleton.mp ht]; exact g2
      refine ⟨.int pk, rfl, rfl, _, rfl, ite2 (fun e2 => ?_) (fun e2 => ?_)⟩
      · -- a median
        refine ⟨sz (by show 1 ≤ 100000; decide), fun hl nhl => ?_⟩
        have sh := Same.new (o := .lst [.str "median"]) nhl
        have R1' := R1.same sh
        have hlr : hl ≠ r := R1.ne nhl
        refine ⟨3, rfl, by decide, by decide, fun D nD => ?_⟩
        have hlD : hl ≠ D := ne_of_none upd_same nD
        refine ⟨fun i k_ H3 => i + k_ = 3 ∧ Drawn1 K ss (m + 1) r D (upd H1 hl (.lst [.str "median"])) i H3, ⟨3, rfl, Drawn1.start R1' nD⟩, fun i k_ H3 hW => ?_⟩
        obtain ⟨em, dr⟩ := hW
        by_cases hi : i < 3
        · refine .inr ⟨hi, Drawn1 K ss (m + 1) r D (upd H1 hl (.lst [.str "median"])) (i + 1), fun H4 z => ⟨k_ - 1, by omega, by omega, z⟩, fun v H4 hy => ?_⟩
          obtain ⟨rfl, rfl⟩ := hy
          refine ⟨rfl, tYes_if ?_⟩
          refine ⟨.ref r, rfl, .ref nl, rfl, .int d, rfl, d, 1, rfl, rfl, r, nl, ss, d - 1, rfl, dr.2.1, nlr, dr.1.L nlr (sh.seq hS1), s0, s1, m, mn1, hd1, fun v5 H5 t5 k5 R5 m5 g5 => ?_⟩
          exact dr.more R1' nD (by omega) k5 R5 m5 g5
        · have ei : i = 3 := by omega
          subst ei
          obtain ⟨k3, R3, xs, ts, hD, hx, hA, hG⟩ := dr
          refine .inl ⟨Nat.le_refl _, ?_⟩
          have hh := k3.1 _ _ hlr (show (upd H1 hl (.lst [.str "median"])) hl = _ from upd_same)
          refine ⟨hl, D, _, _, rfl, rfl, hh, hD, sz (by rw [hx]; show 1 + 3 ≤ 100000; decide), fun c nc => ?_⟩
          have sc := Same.new (o := .lst ([.str "median"] ++ xs)) nc
          refine ⟨c, _, rfl, .inl ⟨SqL.of upd_same, fun p np => ?_⟩⟩
          have sp := sc.trans (Same.new (o := .tup ([.str "median"] ++ xs)) np)
          exact w _ _ (.nd .median ts) (((k1.trans (Kp.of sh)).trans k3).trans (Kp.of sp)) (R3.same sp) ⟨xs, ⟨p, rfl, SqT.of upd_same⟩, hA.mono fun _ _ z => z.same sp⟩ ⟨(show ts.length = 3 by rw [← hA.1, hx]), hG⟩
      -- the parts
      refine ⟨.ref r, rfl, r, 3, rfl, R1, by decide, by decide, fun q H2 q0 q1 k2 R2 => ⟨1, q, rfl, rfl, ?_⟩⟩
      have hS2 := k2.L nlr hS1
      refine ⟨.int (1 + q), rfl, 1 + q, rfl, by omega, by omega, fun D nD => ?_⟩
      have Dr : D ≠ r := R2.ne nD
      refine ⟨fun i k_ H3 => i + k_ = (1 + q).toNat ∧ Drawn1 K ss (m + 1) r D H2 i H3, ⟨(1 + q).toNat, by omega, Drawn1.start R2 nD⟩, fun i k_ H3 hW => ?_⟩
      obtain ⟨em, dr⟩ := hW
      by_cases hi : i < (1 + q).toNat
      · refine .inr ⟨hi, Drawn1 K ss (m + 1) r D H2 (i + 1), fun H4 z => ⟨k_ - 1, by omega, by omega, z⟩, fun v H4 hy => ?_⟩
        obtain ⟨rfl, rfl⟩ := hy
        refine ⟨rfl, tYes_if ?_⟩
        refine ⟨.ref r, rfl, .ref nl, rfl, .int d, rfl, d, 1, rfl, rfl, r, nl, ss, d - 1, rfl, dr.2.1, nlr, dr.1.L nlr hS2, s0, s1, m, mn1, hd1, fun v5 H5 t5 k5 R5 m5 g5 => ?_⟩
        exact dr.more R2 nD (by omega) k5 R5 m5 g5
      have ei : i = (1 + q).toNat := by omega
      subst ei
      obtain ⟨k3, R3, xs, ts, hD, hx, hA, hG⟩ := dr
      have tl : ts.length = (1 + q).toNat := by rw [← hA.1, hx]
      refine .inl ⟨Nat.le_refl _, ?_⟩
      refine ⟨.int pk, rfl, rfl, _, rfl, ite2 (fun e3 => ?_) (fun e3 => ?_)⟩
      · -- a mix
        refine ⟨sz (by show 1 ≤ 100000; decide), fun hl nhl => ?_⟩
        have sh := Same.new (o := .lst [.str "mix"]) nhl
        have hlr : hl ≠ r := R3.ne nhl
        refine ⟨.ref r, rfl, .int (1 + q), rfl, r, (1 + q).toNat, by rw [show (((1 + q).toNat : Nat) : Int) = 1 + q by omega]; rfl, R3.same sh, by omega, fun sl H4 zs ws k4 R4 hsl slr hF wl sw => ?_⟩
        have k04 := k3.trans ((Kp.of sh).trans k4)
        have hD4 : H4 D = some (.lst xs) := ((Kp.of sh).trans k4).1 _ _ Dr hD
        have hh4 : H4 hl = some (.lst [.str "mix"]) := k4.1 _ _ hlr upd_same
        have hA4 := hA.mono fun _ _ z => (z.same sh).kp (R3.same sh) k4
        have zl : zs.length = xs.length := by rw [hF.1, wl, hx]
        refine ⟨.ref D, rfl, sl, D, zs, xs, rfl, .inl ⟨SqL.of hsl, SqL.of hD4, fun L nL => ?_⟩⟩
        refine ⟨fun i k_ H5 => i + k_ = xs.length ∧ Same H4 H5 ∧ ∃ ys, H5 L = some (.lst ys) ∧ ys.length = i ∧ ∀ (j : Nat) y x f, ys[j]? = some y → xs[j]? = some x → ws[j]? = some f → ∃ q wv, y = .ref q ∧ SqT K H5 q [wv, x] ∧ FrB K H5 wv f.1 f.2 40, ⟨xs.length, by omega, Same.new nL, [], upd_same, rfl, fun j y x f z => by cases z⟩, fun i k_ H5 hW => ?_⟩
        obtain ⟨em5, s5, ys, hL, hyl, hys⟩ := hW
        by_cases hi5 : i < xs.length
        · refine .inr ⟨⟨zs, xs, zs[i]'(by omega), xs[i], SqL.of (s5 _ _ hsl), SqL.of (s5 _ _ hD4), List.getElem?_eq_getElem _, List.getElem?_eq_getElem hi5⟩, fun H6 => Same H4 H6 ∧ ∃ ys, H6 L = some (.lst ys) ∧ ys.length = i + 1 ∧ ∀ (j : Nat) y x f, ys[j]? = some y → xs[j]? = some x → ws[j]? = some f → ∃ q wv, y = .ref q ∧ SqT K H6 q [wv, x] ∧ FrB K H6 wv f.1 f.2 40, fun H6 hN => ⟨k_ - 1, by omega, by omega, hN⟩, fun v H6 hy => ?_⟩
          obtain ⟨tt, u1, u2, rfl, nT, rfl, f1, f2⟩ := hy
          have hu1 := f1 _ (SqL.of (s5 _ _ hsl))
          have hu2 := f2 _ (SqL.of (s5 _ _ hD4))
          refine ⟨tt, [u1, u2], rfl, SqT.of upd_same, rfl, u1, [u2], rfl, u2, [], rfl, rfl, rfl, tYes_if ?_⟩
          refine ⟨u1, rfl, u2, rfl, sz (by show 2 ≤ 100000; decide), fun pr npr => ?_⟩
          have s6 := (Same.new (o := .tup [u1, u2]) nT).trans (Same.new (o := .tup [u1, u2]) npr)
          have hL6 := s6 _ _ hL
          refine ⟨ys, hL6, by rw [hyl]; exact szl (by omega), fun b o z => ?_, ys ++ [.ref pr], upd_same, by rw [List.length_append, hyl]; rfl, ?_⟩
          · rw [upd_ne (ne_of_none z nL)]; exact s6 _ _ (s5 _ _ z)
          · intro j y x f hy hx' hf
            have putT : ∀ {q xs}, SqT K (upd (upd H5 tt (.tup [u1, u2])) pr (.tup [u1, u2])) q xs → SqT K (upd (upd (upd H5 tt (.tup [u1, u2])) pr (.tup [u1, u2])) L (.lst (ys ++ [.ref pr]))) q xs := fun {q xs} z => by
              rcases z with (z | ⟨o, z⟩) | z
              · exact .inl (.inl (by rw [upd_ne (ne_of z hL6 (fun y => by cases y))]; exact z))
              · exact .inl (.inr ⟨o, by rw [upd_ne (ne_of z hL6 (fun y => by cases y))]; exact z⟩)
              · exact .inr z
            by_cases hj : j < ys.length
            · rw [List.getElem?_append_left hj] at hy
              obtain ⟨q, wv, e, h1, h2⟩ := hys j y x f hy hx' hf
              exact ⟨q, wv, e, putT (Same.T s6 h1), (h2.same s6).put' hL6⟩
            · have ej : j = i := by
                have := (List.getElem?_eq_some_iff.mp hy).1
                rw [List.length_append] at this
                have : j < ys.length + 1 := this
                omega
              subst ej
              rw [List.getElem?_append_right (by omega), show j - ys.length = 0 by omega] at hy
              cases hy
              rw [hu2] at hx'
              cases hx'
              exact ⟨pr, u1, rfl, putT (SqT.of upd_same), (((hF.2 j u1 f hu1 hf).same s5).same s6).put' hL6⟩
        · have e5 : i = xs.length := by omega
          refine .inl ⟨⟨zs, xs, SqL.of (s5 _ _ hsl), SqL.of (s5 _ _ hD4), .inr (by omega)⟩, ?_⟩
          refine ⟨hl, L, _, _, rfl, rfl, s5 _ _ hh4, hL, sz (by rw [hyl]; show 1 + i ≤ 100000; omega), fun c nc => ?_⟩
          have sc := Same.new (o := .lst ([.str "mix"] ++ ys)) nc
          refine ⟨c, _, rfl, .inl ⟨SqL.of upd_same, fun p np => ?_⟩⟩
          have sp := sc.trans (Same.new (o := .tup ([.str "mix"] ++ ys)) np)
          refine w _ _ (.nd (.mix ws) ts) ((((k1.trans k2).trans k04).trans (Kp.of s5)).trans (Kp.of sp)) ((R4.same s5).same sp) ⟨xs, ⟨p, ys, rfl, SqT.of upd_same, by omega, by rw [wl, hx], fun j y x f a b c => ?_⟩, hA4.mono fun _ _ z => (z.same s5).same sp⟩ ⟨⟨by omega, by omega, by omega, sw⟩, hG⟩
          obtain ⟨q', wv, e', h1, h2⟩ := hys j y x f a b c
          exact ⟨q', wv, e', Same.T sp h1, h2.same sp⟩
      · -- a max or a min
        have pk1 : 4 ≤ pk := by
          by_cases z : pk < 4
          · exact absurd (decide_eq_true z) e1
          · omega
        have pk2 : pk ≠ 8 := fun z => e2 (decide_eq_true (by rw [z]))
        have pk3 : pk ≠ 7 := fun z => e3 (decide_eq_true (by rw [z]))
        refine ⟨sz (by show 3 ≤ 100000; decide), fun ml nml => ?_⟩
        have sm := Same.new (o := .lst [.str "max", .str "min", .str "max"]) nml
        obtain ⟨x, hx0, hxm⟩ := at_int (xs := [V.str "max", V.str "min", V.str "max"]) (i := pk - 4) (by omega) (by show pk - 4 < 3; omega)
        refine ⟨.int pk, rfl, pk, 4, rfl, rfl, ml, _, pk - 4, x, rfl, rfl, SqL.of upd_same, hx0, sz (by show 1 ≤ 100000; decide), fun hl nhl => ?_⟩
        have sh := sm.trans (Same.new (o := .lst [x]) nhl)
        have hhl : (upd (upd H3 ml (.lst [.str "max", .str "min", .str "max"])) hl (.lst [x])) hl = _ := upd_same
        refine ⟨.ref D, rfl, hl, D, _, _, rfl, rfl, hhl, sh _ _ hD, sz (by rw [hx]; show 1 + (1 + q).toNat ≤ 100000; omega), fun c nc => ?_⟩
        have sc := sh.trans (Same.new (o := .lst ([x] ++ xs)) nc)
        refine ⟨c, _, rfl, .inl ⟨SqL.of upd_same, fun p np => ?_⟩⟩
        have sp := sc.trans (Same.new (o := .tup ([x] ++ xs)) np)
        have kk := ((k1.trans k2).trans k3).trans (Kp.of sp)
        have hA' := hA.mono fun _ _ z => z.same sp
        have go : x = .str "max" ∨ x = .str "min" := by
          simp only [List.mem_cons, List.not_mem_nil, or_false] at hxm
          rcases hxm with h | h | h
          · exact .inl h
          · exact .inr h
          · exact .inl h
        rcases go with rfl | rfl
        · exact w _ _ (.nd .max ts) kk (R3.same sp) ⟨xs, ⟨p, rfl, SqT.of upd_same⟩, hA'⟩ ⟨⟨by omega, by omega⟩, hG⟩
        · exact w _ _ (.nd .min ts) kk (R3.same sp) ⟨xs, ⟨p, rfl, SqT.of upd_same⟩, hA'⟩ ⟨⟨by omega, by omega⟩, hG⟩
theorem ok_l_term (T : Txt K mg a) : FnOk P w K mg base CX0 8 a.f_l_term a.fd_l_term ["_law_rng", "_law_names_here", "_law_deep"] (sp_l_term K) := ok_l_term_n T 4
end
section
variable {P : Program} {w : World} {K : PySem.W.Frag} {mg : Str → Option Value} {base : Heap} {a : Ad}
def Bnd (ms : List Nat) (us : List Rw) : Prop := ms.length = us.length ∧ ∀ (i m : Nat) u, ms[i]? = some m → us[i]? = some u → m ≤ 2 ^ u.size
theorem Bnd.un {m : Nat} {u : Rw} {ms : List Nat} {us : List Rw} (h : Bnd (m :: ms) (u :: us)) : m ≤ 2 ^ u.size ∧ Bnd ms us :=
  ⟨h.2 0 m u rfl rfl, by have := h.1; simpa using this, fun i y z a b => h.2 (i + 1) y z a b⟩
theorem Bnd.snoc {m : Nat} {u : Rw} {ms : List Nat} {us : List Rw} (h : Bnd ms us) (k : m ≤ 2 ^ u.size) : Bnd (ms ++ [m]) (us ++ [u]) := by
  refine ⟨by rw [List.length_append, List.length_append, h.1]; rfl, fun i y z a b => ?_⟩
  by_cases hi : i < ms.length
  · rw [List.getElem?_append_left hi] at a
    rw [List.getElem?_append_left (by rw [← h.1]; exact hi)] at b
    exact h.2 i y z a b
  · rw [List.getElem?_append_right (by omega)] at a
    rw [List.getElem?_append_right (by rw [← h.1]; omega), ← h.1] at b
    cases e : i - ms.length with
    | zero => rw [e] at a b; cases a; cases b; exact k
    | succ j => rw [e] at a; cases a
theorem add_mul {a b : Nat} (h1 : 2 ≤ a) (h2 : 2 ≤ b) : a + b ≤ a * b := by
  rcases Nat.le_total a b with h | h
  · have := Nat.mul_le_mul_right b h1; omega
  · have := Nat.mul_le_mul_left a h2; omega
theorem two_pow {n : Nat} (h : 1 ≤ n) : 2 ≤ 2 ^ n := by
  have := Nat.pow_le_pow_right (show 0 < 2 by decide) h
  exact this
theorem Bnd.sum : ∀ {ms : List Nat} {us : List Rw}, Bnd ms us → ms.sum ≤ 2 ^ Rw.sizes us
  | [], _, _ => Nat.zero_le _
  | m :: ms, [], h => by have := h.1; cases this
  | m :: ms, u :: us, h => by
    rw [List.sum_cons, Rw.sizes, Nat.pow_add]
    have h1 := h.un.1
    have h2 := h.un.2.sum
    cases us with
    | nil =>
      have e : ms = [] := List.length_eq_zero_iff.mp h.un.2.1
      rw [e, List.sum_nil, Rw.sizes]
      omega
    | cons z us =>
      have z1 : 1 ≤ Rw.sizes (z :: us) := by rw [Rw.sizes]; have := z.size_pos; omega
      have := add_mul (two_pow u.size_pos) (two_pow z1)
      omega
def prodN (ms : List Nat) : Nat := ms.foldl (· * ·) 1
theorem prodN_snoc (ms : List Nat) (m : Nat) : prodN (ms ++ [m]) = prodN ms * m := by unfold prodN; rw [List.foldl_append]; rfl
theorem Bnd.prod {ms : List Nat} {us : List Rw} (h : Bnd ms us) : ∀ i, prodN (ms.take i) ≤ 2 ^ Rw.sizes (us.take i)
  | 0 => by rw [List.take_zero, List.take_zero, Rw.sizes]; exact Nat.le_refl 1
  | i + 1 => by
    have ih := h.prod i
    by_cases hi : i < ms.length
    · have a : ms[i]? = some ms[i] := List.getElem?_eq_getElem hi
      have hi' : i < us.length := by rw [← h.1]; exact hi
      have b : us[i]? = some us[i] := List.getElem?_eq_getElem hi'
      rw [sizes_take us i _ b, List.take_add_one, a, Nat.pow_add]
      show prodN (ms.take i ++ [ms[i]]) ≤ _
      rw [prodN_snoc]
      exact Nat.mul_le_mul ih (h.2 i _ _ a b)
    · have hi' : us.length ≤ i := by rw [← h.1]; omega
      rw [List.take_of_length_le (by omega), List.take_of_length_le (by omega)]
      rw [List.take_of_length_le (by omega), List.take_of_length_le (by omega)] at ih
      exact ih
def spLines (K : PySem.W.Frag) : Nat → Sp
  | 0 => fun _ _ _ _ => False
  | n + 1 => fun vs H Q _ => ∃ (v : V) (t : Rw), vs = [v] ∧ RwAt K H (n + 1) v t ∧ t.size ≤ 1000 ∧ ∀ H' (m : Nat), Same H H' → m ≤ 2 ^ t.size → (t.subs = [] → m ≤ 1) → Q (.int (m : Nat)) H'

def sp_l_many_lines (K : PySem.W.Frag) : Sp := spLines K 40

theorem ok_l_many_lines_n (T : Txt K mg a) : ∀ n, FnOk P w K mg base CX0 (n + 1) a.f_l_many_lines a.fd_l_many_lines ["_law_term_here"] (spLines K n)
  | 0 => fn_false
  | n + 1 => by
    have G_l_operands := ok_l_operands (P := P) (w := w) (base := base) T
    have G_l_many_lines := ok_l_many_lines_n T n
    refine T.F_l_many_lines.ok sc_l_many_lines (fun vs H Q E h => ?_) (fun cdv A outer s H vs Q E hr h => ?_)
    · obtain ⟨v, t, rfl, _⟩ := h
      rfl
    obtain ⟨v, t, rfl, ht, tz, w⟩ := h
    have ar := ht.ar
    refine ⟨_, (pss_cons (ps_setLc (i := 1) (own := [("_law_one", 3)]) (g := gName 3) rfl sc_l_many_lines.nd rfl rfl (sw_true rfl rfl rfl (by decide +kernel)) (pi_list (pe_call G_l_operands (hr.mono (by first | decide | omega)) (by rfl) T.g_l_operands T.F_l_operands.kp T.b_l_operands .nil pass0 (pa_cons (pv 0) pa_nil))) (blkOk_by (own := [("_law_one", 3)]) (N := ["_law_term_here", "_law_parts", "_law_quantity", "_law_one"]) (sc := defScope s_l_many_lines) (by decide +kernel)) (fun _ _ _ _ _ => (pg_name (i := 3) sc_l_many_lines.nd rfl (Or.inl rfl))) (fun _ _ _ _ _ => pts_nil) (fun _ _ _ _ _ => (pe_call G_l_many_lines (hr.mono (by first | decide | omega)) (by rfl) T.g_l_many_lines T.F_l_many_lines.kp T.b_l_many_lines .nil pass0 (pa_cons (pv 3) pa_nil))))
      (pss_cons (ps_if (pt_cmpR op_in_seq (pe_ix ix_tup (pv 0) pe_int (fun _ _ => rfl)) (pe_tup (pa_cons pe_str (pa_cons pe_str pa_nil))) (by rfl)) (pss_one (ps_ret (pe_ix ix_list (pe_op op_cat (pv 1) (pe_lst (pa_cons pe_int pa_nil))) pe_int (fun _ _ => rfl)))) pss_nil)
      (pss_cons (ps_if (pt_cmpR op_ne (pe_ix ix_tup (pv 0) pe_int (fun _ _ => rfl)) pe_str (nomark _)) (pss_one (ps_ret (pe_callB (cr_sum rfl) (by rfl) T.n_sum (by decide +kernel) (pa_cons (pv 1) pa_nil)))) pss_nil)
      (pss_cons (ps_set (i := 2) sc_l_many_lines.nd rfl (by first | exact Or.inl rfl | exact Or.inr rfl) pe_int)
      (pss_cons (ps_for PassesOwn.never rfl (pi_list (pv 1)) (pg_name (i := 3) sc_l_many_lines.nd rfl (by first | exact Or.inl rfl | exact Or.inr rfl)) (pss_one (ps_set (i := 2) sc_l_many_lines.nd rfl (by first | exact Or.inl rfl | exact Or.inr rfl) (pe_op op_mulW (pv 2) (pv 3)))))
      (pss_one (ps_ret (pv 2)))))))), ?_⟩
    refine ⟨v, rfl, v, t, n, rfl, ht, fun l H1 xs s1 nl hl hA => ?_⟩
    refine ⟨l, rfl, ⟨_, SqL.of hl⟩, fun D nD => ?_⟩
    have xl : xs.length ≤ 2000 := by rw [hA.1]; exact ar.1
    refine lc_list (K := K) (a := l) (xs := xs) (fun i H2 => Same H1 H2 ∧ ∃ ms : List Nat, H2 D = some (.lst ((ms.map fun m => ((m : Nat) : Int)).map V.int)) ∧ Bnd ms (t.subs.take i)) ⟨Same.new nD, [], upd_same, rfl, fun i m u h => by cases h⟩ (fun i H2 _ z => SqL.of (z.1 _ _ hl)) ?_ ?_
    · rintro i x H2 hx ⟨s2, ms, hD, hB⟩
      obtain ⟨u, hu, tu⟩ := hA.at hx
      have il : i < xs.length := (List.getElem?_eq_some_iff.mp hx).1
      refine ⟨rfl, tYes_if ?_⟩
      refine ⟨x, rfl, ?_⟩
      cases n with
      | zero => exact tu.elim
      | succ n =>
        have uz : u.size ≤ 1000 := by have := sizes_at hu; rw [t.size_eq] at tz; omega
        refine ⟨x, u, rfl, tu.same s2, uz, fun H3 m s3 mb _ => ⟨_, s3 _ _ hD, ?_, fun b o e => ?_, ms ++ [m], ?_, ?_⟩⟩
        · have := hB.1; rw [List.length_take] at this; rw [List.length_map, List.length_map]; exact szl (by omega)
        · rw [upd_ne (ne_of_none e nD)]; exact s3 _ _ (s2 _ _ e)
        · rw [upd_same, List.map_append, List.map_append]; rfl
        · rw [List.take_add_one, hu]; exact hB.snoc mb
    · rintro H2 ⟨s2, ms, hD, hB⟩
      rw [hA.1, List.take_length] at hB
      have s12 := s1.trans s2
      obtain ⟨p, k, ys, rfl, hp, _⟩ := (ht.same s12).hd
      have e0 : t.subs = [] → ms = [] := fun e => List.length_eq_zero_iff.mp (by rw [hB.1, e]; rfl)
      have pz : 2 ^ Rw.sizes t.subs ≤ 2 ^ t.size := Nat.pow_le_pow_right (by decide) (by rw [t.size_eq]; omega)
      refine ⟨.ref p, rfl, p, _, 0, _, rfl, rfl, hp, atI_nat (j := 0) rfl, sz (by show 2 ≤ 100000; decide), fun q nq => ?_⟩
      have s3 := Same.new (o := .tup [.str "event", .str "delay"]) nq
      have s13 := s12.trans s3
      have hD3 := s3 _ _ hD
      refine ⟨q, _, rfl, .inr (SqT.of upd_same), rfl, rfl, _, rfl, ite2 (fun e => ?_) (fun e => ?_)⟩
      · refine ⟨.ref D, rfl, sz (by show 1 ≤ 100000; decide), fun l1 nl1 => ?_⟩
        have s4 := Same.new (o := .lst [.int 1]) nl1
        have ml : ms.length ≤ 2000 := by rw [hB.1]; exact ar.1
        refine ⟨D, l1, _, _, rfl, rfl, s4 _ _ hD3, upd_same, by rw [List.length_map, List.length_map]; exact sz (by show _ + 1 ≤ _; omega), fun l2 nl2 => ?_⟩
        have s5 := s13.trans (s4.trans (Same.new (o := .lst (((ms.map fun m => ((m : Nat) : Int)).map V.int) ++ [.int 1])) nl2))
        cases hm : ms with
        | nil =>
          subst hm
          exact ⟨l2, _, 0, _, rfl, rfl, SqL.of upd_same, atI_nat (j := 0) rfl, w _ 1 s5 Nat.one_le_two_pow fun _ => Nat.le_refl _⟩
        | cons m ms' =>
          subst hm
          refine ⟨l2, _, 0, _, rfl, rfl, SqL.of upd_same, atI_nat (j := 0) rfl, w _ m s5 ?_ fun e => by have := e0 e; cases this⟩
          cases hs : t.subs with
          | nil => have := e0 hs; cases this
          | cons u us =>
            rw [hs] at hB pz
            have h1 := hB.un.1
            have h2 : 2 ^ u.size ≤ 2 ^ Rw.sizes (u :: us) := Nat.pow_le_pow_right (by decide) (by rw [Rw.sizes]; omega)
            omega
      refine ⟨.ref p, rfl, p, _, 0, _, rfl, rfl, Same.T s3 hp, atI_nat (j := 0) rfl, rfl, _, rfl, ite2 (fun e2 => ?_) (fun e2 => ?_)⟩
      · refine ⟨.ref D, rfl, D, _, rfl, SqL.of hD3, ?_⟩
        have c : ∀ l : List Nat, (l.map fun m => ((m : Nat) : Int)).sum = ((l.sum : Nat) : Int) := by
          intro l
          induction l with
          | nil => rfl
          | cons x l ih => rw [List.map_cons, List.sum_cons, ih, List.sum_cons]; omega
        show Q (.int (ms.map fun m => ((m : Nat) : Int)).sum) _
        rw [c]
        have hs := hB.sum
        exact w _ _ s13 (by omega) fun e => by rw [e0 e]; decide
      refine ⟨.ref D, rfl, D, rfl, ⟨_, SqL.of hD3⟩, for_list (K := K) (a := D) (xs := (ms.map fun m => ((m : Nat) : Int)).map V.int) (fun i σ H4 => ∃ y3, σ = [some (.ref p), some (.ref D), some (.int (prodN (ms.take i) : Nat)), y3] ∧ Same H H4 ∧ H4 D = some (.lst ((ms.map fun m => ((m : Nat) : Int)).map V.int))) ⟨none, rfl, s13, hD3⟩ (fun i σ H4 _ ⟨_, _, _, z⟩ => SqL.of z) ?_ ?_⟩
      · rintro i x σ H4 hx ⟨y3, rfl, s4, hD4⟩
        obtain ⟨m, hm, rfl⟩ : ∃ m : Nat, ms[i]? = some m ∧ x = V.int (m : Nat) := by
          rw [List.getElem?_map, List.getElem?_map] at hx
          cases e : ms[i]? with
          | none => rw [e] at hx; cases hx
          | some m => rw [e] at hx; exact ⟨m, rfl, (Option.some.inj hx).symm⟩
        have tk : prodN (ms.take (i + 1)) = prodN (ms.take i) * m := by rw [List.take_add_one, hm]; exact prodN_snoc _ _
        have b1 := hB.prod i
        have b2 := hB.prod (i + 1)
        have lt : ∀ {k : Nat} {us : List Rw}, k ≤ 2 ^ Rw.sizes us → Rw.sizes us ≤ 1000 → k < 2 ^ 1001 := fun h1 h2 => Nat.lt_of_le_of_lt h1 (Nat.pow_lt_pow_right (by decide) (by omega))
        have zt : Rw.sizes t.subs ≤ 1000 := by rw [t.size_eq] at tz; omega
        have hu : ∃ u, t.subs[i]? = some u := by
          have := (List.getElem?_eq_some_iff.mp hm).1
          exact ⟨_, List.getElem?_eq_getElem (by rw [← hB.1]; exact this)⟩
        obtain ⟨u, hu⟩ := hu
        have mb : m < 2 ^ 1001 := Nat.lt_of_le_of_lt (hB.2 i m u hm hu) (Nat.pow_lt_pow_right (by decide) (by have := sizes_at hu; omega))
        refine ⟨_, rfl, _, rfl, _, _, rfl, rfl, mulW (A := 1001) (by rw [Int.natAbs_natCast]; exact lt b1 (by have := sizes_take_le t.subs i; omega)) (by rw [Int.natAbs_natCast]; exact mb) (by decide) (by decide), some (.int (m : Nat)), ?_, s4, hD4⟩
        rw [tk, Int.natCast_mul]
        rfl
      · rintro σ H4 ⟨y3, rfl, s4, hD4⟩
        have b1 := hB.prod ms.length
        rw [List.take_length, hB.1, List.take_length] at b1
        refine ⟨_, rfl, ?_⟩
        rw [List.length_map, List.length_map, List.take_length]
        exact w _ _ s4 (by omega) fun e => by rw [e0 e]; decide
theorem ok_l_many_lines (T : Txt K mg a) : FnOk P w K mg base CX0 41 a.f_l_many_lines a.fd_l_many_lines ["_law_term_here"] (sp_l_many_lines K) := ok_l_many_lines_n T 40
end
section
variable {P : Program} {w : World} {K : PySem.W.Frag} {mg : Str → Option Value} {base : Heap} {a : Ad}
def sp_l_wide_term (K : PySem.W.Frag) : Sp := fun vs H Q _ => ∃ (r nl : Addr) (ss : List Str), vs = [.ref r, .ref nl] ∧ Rg H r ∧ nl ≠ r ∧ SqL K H nl (ss.map V.str) ∧ 0 < ss.length ∧ ss.length ≤ 60 ∧ ∀ v H' t, Kp r H H' → Rg H' r → FitT K H' ss v t → WT ss 3 t → Q v H'
theorem fit_wide {K : PySem.W.Frag} {H : Hp} {ss : List Str} {v : V} {k : Kd} {ts : List Tm} (l1 : 4 ≤ ts.length) (l2 : ts.length ≤ 6) (nm : k ≠ .median) (kw : KdW k ts.length) (g : ∀ t ∈ ts, Good ss 2 t) (h : TmAt K H 3 v (.nd k ts)) : FitT K H ss v (.nd k ts) ∧ WT ss 3 (.nd k ts) := by
  have gin : ∀ us : List Tm, (∀ u ∈ us, ∀ s ∈ u.flat, s ∈ ss) → ∀ x ∈ Tm.flats us, x ∈ ss := by
    intro us
    induction us with
    | nil => intro _ x hx; rw [Tm.flats] at hx; cases hx
    | cons u us ih =>
      intro hh x hx
      rw [Tm.flats] at hx
      rcases List.mem_append.mp hx with z | z
      · exact hh u List.mem_cons_self x z
      · exact ih (fun v hv => hh v (List.mem_cons_of_mem _ hv)) x z
  refine ⟨⟨h.le (by decide), VOk.le (n := 3) (by decide) ⟨⟨⟨by omega, by omega⟩, fun e => absurd e nm⟩, fun t ht => (g t ht).vok⟩, fun s hs => ?_, ?_, ?_, WT.le (n := 3) (by decide) ⟨kw, fun t ht => (g t ht).wt⟩⟩, kw, fun t ht => (g t ht).wt⟩
  · rw [Tm.flat] at hs
    exact gin ts (fun u hu => flats_in (g u hu)) s hs
  · have hb := bm_le (b := 40) (B := btG 40 1) fun t ht => (g t ht).bt
    have m1 := Nat.mul_le_mul l2 (Nat.add_le_add_right hb 41)
    rw [Tm.bt]
    have : btG 40 1 = 245 := by decide
    rw [this] at m1
    omega
  · have h1 := sizes_le (B := szB 2) fun t ht => (g t ht).size
    have h2 := Nat.mul_le_mul_right (szB 2) l2
    have : szB 2 = 4 := by decide
    rw [this] at h1 h2
    rw [Tm.size]
    omega

theorem ok_l_wide_term (T : Txt K mg a) : FnOk P w K mg base CX0 9 a.f_l_wide_term a.fd_l_wide_term ["_law_rng", "_law_names_here"] (sp_l_wide_term K) := by
  have G_l_shuffled := ok_l_shuffled (P := P) (w := w) (base := base) T
  have G_l_choice := ok_l_choice (P := P) (w := w) (base := base) T
  have G_l_draw := ok_l_draw (P := P) (w := w) (base := base) T
  have G_l_term := ok_l_term (P := P) (w := w) (base := base) T
  have G_l_small := ok_l_small (P := P) (w := w) (base := base) T
  have G_l_shares := ok_l_shares (P := P) (w := w) (base := base) T
  refine T.F_l_wide_term.ok sc_l_wide_term (fun vs H Q E h => ?_) (fun cdv A outer s H vs Q E hr h => ?_)
  · obtain ⟨r, nl, ss, rfl, _⟩ := h
    rfl
  · have G_l_term := ok_l_term_n (P := P) (w := w) (base := base) T 2
    obtain ⟨r, nl, ss, rfl, R, nlr, hS, s0, s1, w⟩ := h
    have w' : ∀ v H' t, Kp r H H' → Rg H' r → FitT K H' ss v t ∧ WT ss 3 t → Q v H' := fun v H' t k R f => w v H' t k R f.1 f.2
    refine ⟨_, (pss_cons (ps_par (i := 2) (j := 3) (by rfl) sc_l_wide_term.nd rfl rfl (by decide) rfl rfl (pa_cons (pe_op op_add pe_int (pe_call G_l_draw (hr.mono (by first | decide | omega)) (by rfl) T.g_l_draw T.F_l_draw.kp T.b_l_draw .nil pass0 (pa_cons (pv 0) (pa_cons pe_int pa_nil)))) (pa_cons (pe_call G_l_choice (hr.mono (by first | decide | omega)) (by rfl) T.g_l_choice T.F_l_choice.kp T.b_l_choice .nil pass0 (pa_cons (pv 0) (pa_cons (pe_lst (pa_cons pe_str (pa_cons pe_str (pa_cons pe_str pa_nil)))) pa_nil))) pa_nil)) (by rfl))
          (pss_cons (ps_setLc (i := 4) (own := [("_law_k", 5)]) (g := gName 5) rfl sc_l_wide_term.nd rfl rfl (sw_true rfl rfl rfl (by decide +kernel)) (pi_range1 (by rfl) T.n_range (pa_cons (pv 2) pa_nil)) (blkOk_by (own := [("_law_k", 5)]) (N := ["_law_rng", "_law_names_here", "_law_quantity", "_law_tag", "_law_parts", "_law_k", "_law_share", "_law_one"]) (sc := defScope s_l_wide_term) (by decide +kernel)) (fun _ _ _ _ _ => (pg_name (i := 5) sc_l_wide_term.nd rfl (Or.inl rfl))) (fun _ _ _ _ _ => pts_nil) (fun _ _ _ _ _ => (pe_ifExp (pt_cmpR op_eq (pv 5) pe_int (nomark _)) (pe_call G_l_term (hr.mono (by first | decide | omega)) (by rfl) T.g_l_term T.F_l_term.kp T.b_l_term .nil pass0 (pa_cons (pv 0) (pa_cons (pv 1) (pa_cons pe_int pa_nil)))) (pe_tup (pa_cons pe_str (pa_cons (pe_tup (pa_cons pe_str (pa_cons (pe_call G_l_choice (hr.mono (by first | decide | omega)) (by rfl) T.g_l_choice T.F_l_choice.kp T.b_l_choice .nil pass0 (pa_cons (pv 0) (pa_cons (pv 1) pa_nil))) pa_nil))) (pa_cons (pe_call G_l_small (hr.mono (by first | decide | omega)) (by rfl) T.g_l_small T.F_l_small.kp T.b_l_small .nil pass0 (pa_cons (pv 0) pa_nil)) pa_nil)))))))
          (pss_cons (ps_set (i := 4) sc_l_wide_term.nd rfl (by first | exact Or.inl rfl | exact Or.inr rfl) (pe_call G_l_shuffled (hr.mono (by first | decide | omega)) (by rfl) T.g_l_shuffled T.F_l_shuffled.kp T.b_l_shuffled .nil pass0 (pa_cons (pv 0) (pa_cons (pv 4) pa_nil))))
          (pss_cons (ps_if (pt_cmpR op_eq (pv 3) pe_str (nomark _)) (pss_one (ps_setLc (i := 4) (own := [("_law_share", 6), ("_law_one", 7)]) (g := gTup K 2 (gCons (gName 6) (gCons (gName 7) gNil))) rfl sc_l_wide_term.nd rfl rfl (sw_true rfl rfl rfl (by decide +kernel)) (RZ.pi_zipA (by rfl) T.n_zip (pa_cons (pe_call G_l_shares (hr.mono (by first | decide | omega)) (by rfl) T.g_l_shares T.F_l_shares.kp T.b_l_shares .nil pass0 (pa_cons (pv 0) (pa_cons (pv 2) pa_nil))) (pa_cons (pv 4) pa_nil))) (blkOk_by (own := [("_law_share", 6), ("_law_one", 7)]) (N := ["_law_rng", "_law_names_here", "_law_quantity", "_law_tag", "_law_parts", "_law_k", "_law_share", "_law_one"]) (sc := defScope s_l_wide_term) (by decide +kernel)) (fun _ _ _ _ _ => (pg_tup rfl (pgs_cons (pg_name (i := 6) sc_l_wide_term.nd rfl (Or.inl rfl)) (pgs_cons (pg_name (i := 7) sc_l_wide_term.nd rfl (Or.inl rfl)) pgs_nil)))) (fun _ _ _ _ _ => pts_nil) (fun _ _ _ _ _ => (pe_tup (pa_cons (pv 6) (pa_cons (pv 7) pa_nil)))))) pss_nil)
          (pss_one (ps_ret (pe_callTy call_tuple_of (by rfl) T.n_tuple (by decide +kernel) (pa_cons (pe_op op_cat (pe_lst (pa_cons (pv 3) pa_nil)) (pv 4)) pa_nil)))))))), ?_⟩
    refine ⟨.ref r, rfl, r, 3, rfl, R, by decide, by decide, fun q H1 q0 q1 k1 R1 => ⟨4, q, rfl, rfl, ?_⟩⟩
    refine ⟨.ref r, rfl, sz (by show 3 ≤ 100000; decide), fun cl ncl => ?_⟩
    have sc := Same.new (o := .lst [.str "max", .str "min", .str "mix"]) ncl
    refine ⟨r, .ref cl, _, rfl, R1.same sc, .inl ⟨cl, rfl, R1.ne ncl, .inl (SqL.of upd_same)⟩, by show 0 < 3; decide, by show 3 ≤ 100000; decide, fun tg htg H2 k2 R2 => ⟨_, _, rfl, ?_⟩⟩
    have k02 := k1.trans ((Kp.of sc).trans k2)
    have hS2 := k02.L nlr hS
    -- the parts
    refine ⟨.int (4 + q), rfl, 4 + q, rfl, by omega, by omega, fun D nD => ?_⟩
    have Dr : D ≠ r := R2.ne nD
    refine ⟨fun i m H3 => i + m = (4 + q).toNat ∧ Drawn1 K ss 2 r D H2 i H3, ⟨(4 + q).toNat, by omega, Drawn1.start R2 nD⟩, fun i m H3 hW => ?_⟩
    obtain ⟨em, dr⟩ := hW
    by_cases hi : i < (4 + q).toNat
    · refine .inr ⟨hi, Drawn1 K ss 2 r D H2 (i + 1), fun H4 z => ⟨m - 1, by omega, by omega, z⟩, fun v H4 hy => ?_⟩
      obtain ⟨rfl, rfl⟩ := hy
      refine ⟨rfl, tYes_if ?_⟩
      have hS3 := dr.1.L nlr hS2
      refine ⟨.int (0 + (i : Int)), rfl, rfl, _, rfl, ite2 (fun e => ?_) (fun e => ?_)⟩
      · refine ⟨.ref r, rfl, .ref nl, rfl, r, nl, ss, 2, rfl, dr.2.1, nlr, hS3, s0, s1, 1, by decide, by decide, fun v5 H5 t5 k5 R5 m5 g5 => ?_⟩
        exact dr.more R2 nD (by omega) k5 R5 m5 g5
      · refine ⟨.ref r, rfl, .ref nl, rfl, r, .ref nl, _, rfl, dr.2.1, .inl ⟨nl, rfl, nlr, .inl hS3⟩, by rw [List.length_map]; exact s0, by rw [List.length_map]; omega, fun x hx H5 k5 R5 => ?_⟩
        obtain ⟨s, hs, rfl⟩ := List.mem_map.mp hx
        refine ⟨sz (by show 2 ≤ 100000; decide), fun p np => ?_⟩
        have sp := Same.new (o := .tup [.str "event", .str s]) np
        refine ⟨.ref r, rfl, r, rfl, R5.same sp, fun v6 H6 n6 d6 k6 R6 f6 => ⟨sz (by show 3 ≤ 100000; decide), fun p2 np2 => ?_⟩⟩
        have sp2 := Same.new (o := .tup [.str "delay", .ref p, v6]) np2
        have evt : TmAt K _ 1 (.ref p) (.ev s) := ⟨p, rfl, Same.T sp2 (RgT (R5.same sp) k6 (SqT.of upd_same))⟩
        refine dr.more (t := .nd (.delay (n6, d6)) [.ev s]) R2 nD (by omega) (k5.trans ((Kp.of sp).trans (k6.trans (Kp.of sp2)))) (R6.same sp2) ⟨[.ref p], ⟨p2, .ref p, v6, rfl, rfl, SqT.of upd_same, (f6.up' (by decide)).same sp2⟩, All2.one evt⟩ ⟨⟨rfl, f6.dls⟩, fun t ht => ?_⟩
        rw [List.mem_singleton.mp ht]; exact hs
    have ei : i = (4 + q).toNat := by omega
    subst ei
    obtain ⟨k3, R3, xs, ts, hD, hx, hA, hG⟩ := dr
    refine .inl ⟨Nat.le_refl _, ?_⟩
    refine ⟨.ref r, rfl, .ref D, rfl, r, D, xs, rfl, R3, Dr, SqL.of hD, by omega, fun L H4 ys k4 R4 hL Lr pm => ?_⟩
    have yl : ys.length = (4 + q).toNat := by rw [pm.length_eq, hx]
    obtain ⟨us, hU, gU⟩ := all2_ex (R := TmAt K H4 2) (G := Good ss 2) (ys := ys) fun y hy => by
      obtain ⟨t, a, b⟩ := hA.ex hG y (pm.mem_iff.mp hy)
      exact ⟨t, a.kp R3 k4, b⟩
    have ul : us.length = (4 + q).toNat := by rw [← hU.1, yl]
    have k04 := k02.trans (k3.trans k4)
    have plain : ∀ (k : Kd), (k = .max ∨ k = .min) → ∀ hl c p : Addr, H4 hl = none → (upd H4 hl (.lst [.str (kdS k)])) c = none → (upd (upd H4 hl (.lst [.str (kdS k)])) c (.lst ([.str (kdS k)] ++ ys))) p = none → Q (.ref p) (upd (upd (upd H4 hl (.lst [.str (kdS k)])) c (.lst ([.str (kdS k)] ++ ys))) p (.tup ([.str (kdS k)] ++ ys))) := by
      intro k hk hl c p nhl nc np
      have sA := (Same.new (o := .lst [.str (kdS k)]) nhl).trans ((Same.new (o := .lst ([.str (kdS k)] ++ ys)) nc).trans (Same.new (o := .tup ([.str (kdS k)] ++ ys)) np))
      refine w' _ _ (.nd k us) (k04.trans (Kp.of sA)) (R4.same sA) (fit_wide (by omega) (by omega) (fun e => by rcases hk with rfl | rfl <;> cases e) (by rcases hk with rfl | rfl <;> exact ⟨by omega, by omega⟩) gU ⟨ys, ?_, hU.mono fun _ _ z => z.same sA⟩)
      rcases hk with rfl | rfl
      · exact ⟨p, rfl, SqT.of upd_same⟩
      · exact ⟨p, rfl, SqT.of upd_same⟩
    simp only [List.mem_cons, List.not_mem_nil, or_false] at htg
    rcases htg with rfl | rfl | rfl
    · refine ⟨.str "max", rfl, rfl, _, rfl, ifF (str_no (by decide +kernel)) ?_⟩
      refine ⟨.str "max", rfl, sz (by show 1 ≤ 100000; decide), fun hl nhl => ?_⟩
      have sh := Same.new (o := .lst [.str "max"]) nhl
      refine ⟨.ref L, rfl, hl, L, _, _, rfl, rfl, upd_same, sh _ _ hL, sz (by show 1 + ys.length ≤ 100000; omega), fun c nc => ⟨c, _, rfl, .inl ⟨SqL.of upd_same, fun p np => plain .max (.inl rfl) hl c p nhl nc np⟩⟩⟩
    · refine ⟨.str "min", rfl, rfl, _, rfl, ifF (str_no (by decide +kernel)) ?_⟩
      refine ⟨.str "min", rfl, sz (by show 1 ≤ 100000; decide), fun hl nhl => ?_⟩
      have sh := Same.new (o := .lst [.str "min"]) nhl
      refine ⟨.ref L, rfl, hl, L, _, _, rfl, rfl, upd_same, sh _ _ hL, sz (by show 1 + ys.length ≤ 100000; omega), fun c nc => ⟨c, _, rfl, .inl ⟨SqL.of upd_same, fun p np => plain .min (.inr rfl) hl c p nhl nc np⟩⟩⟩
    refine ⟨.str "mix", rfl, rfl, _, rfl, ifT (decide_eq_true rfl) ?_⟩
    refine ⟨.ref r, rfl, .int (4 + q), rfl, r, (4 + q).toNat, by rw [show (((4 + q).toNat : Nat) : Int) = 4 + q by omega]; rfl, R4, by omega, fun sl H5 zs ws k5 R5 hsl slr hF wl sw => ?_⟩
    have hL5 := k5.1 _ _ Lr hL
    have hU5 := hU.mono fun _ _ z => z.kp R4 k5
    have zl : zs.length = ys.length := by rw [hF.1, wl, yl]
    refine ⟨.ref L, rfl, sl, L, zs, ys, rfl, .inl ⟨SqL.of hsl, SqL.of hL5, fun M nM => ?_⟩⟩
    refine ⟨fun i m H6 => i + m = ys.length ∧ Same H5 H6 ∧ ∃ ps, H6 M = some (.lst ps) ∧ ps.length = i ∧ ∀ (j : Nat) y x f, ps[j]? = some y → ys[j]? = some x → ws[j]? = some f → ∃ q wv, y = .ref q ∧ SqT K H6 q [wv, x] ∧ FrB K H6 wv f.1 f.2 40, ⟨ys.length, by omega, Same.new nM, [], upd_same, rfl, fun j y x f z => by cases z⟩, fun i m H6 hW => ?_⟩
    obtain ⟨em5, s5, ps, hM, hpl, hps⟩ := hW
    by_cases hi5 : i < ys.length
    · refine .inr ⟨⟨zs, ys, zs[i]'(by omega), ys[i], SqL.of (s5 _ _ hsl), SqL.of (s5 _ _ hL5), List.getElem?_eq_getElem _, List.getElem?_eq_getElem hi5⟩, fun H7 => Same H5 H7 ∧ ∃ ps, H7 M = some (.lst ps) ∧ ps.length = i + 1 ∧ ∀ (j : Nat) y x f, ps[j]? = some y → ys[j]? = some x → ws[j]? = some f → ∃ q wv, y = .ref q ∧ SqT K H7 q [wv, x] ∧ FrB K H7 wv f.1 f.2 40, fun H7 hN => ⟨m - 1, by omega, by omega, hN⟩, fun v H7 hy => ?_⟩
      obtain ⟨tt, u1, u2, rfl, nT, rfl, f1, f2⟩ := hy
      have hu1 := f1 _ (SqL.of (s5 _ _ hsl))
      have hu2 := f2 _ (SqL.of (s5 _ _ hL5))
      refine ⟨tt, [u1, u2], rfl, SqT.of upd_same, rfl, u1, [u2], rfl, u2, [], rfl, rfl, rfl, tYes_if ?_⟩
      refine ⟨u1, rfl, u2, rfl, sz (by show 2 ≤ 100000; decide), fun pr npr => ?_⟩
      have s6 := (Same.new (o := .tup [u1, u2]) nT).trans (Same.new (o := .tup [u1, u2]) npr)
      have hM6 := s6 _ _ hM
      refine ⟨ps, hM6, by rw [hpl]; exact szl (by omega), fun b o z => ?_, ps ++ [.ref pr], upd_same, by rw [List.length_append, hpl]; rfl, ?_⟩
      · rw [upd_ne (ne_of_none z nM)]; exact s6 _ _ (s5 _ _ z)
      · intro j y x f a b c
        by_cases hj : j < i
        · rw [List.getElem?_append_left (by omega)] at a
          obtain ⟨q', wv, e', h1, h2⟩ := hps j y x f a b c
          exact ⟨q', wv, e', SqT.put (Same.T s6 h1) hM6, (h2.same s6).put' hM6⟩
        · have ej : j = i := by
            have := (List.getElem?_eq_some_iff.mp a).1
            rw [List.length_append, hpl] at this
            have : j < i + 1 := this
            omega
          subst ej
          rw [List.getElem?_append_right (by omega), hpl, Nat.sub_self] at a
          cases a
          rw [hu2] at b
          cases b
          have fu := hF.2 j u1 f hu1 c
          exact ⟨pr, u1, rfl, SqT.put (SqT.of upd_same) hM6, ((fu.same s5).same s6).put' hM6⟩
    have e5 : i = ys.length := by omega
    refine .inl ⟨⟨zs, ys, SqL.of (s5 _ _ hsl), SqL.of (s5 _ _ hL5), .inr (by omega)⟩, ?_⟩
    refine ⟨.str "mix", rfl, sz (by show 1 ≤ 100000; decide), fun hl nhl => ?_⟩
    have sh := Same.new (o := .lst [.str "mix"]) nhl
    refine ⟨.ref M, rfl, hl, M, _, _, rfl, rfl, upd_same, sh _ _ hM, sz (by show 1 + ps.length ≤ 100000; omega), fun c nc => ⟨c, _, rfl, .inl ⟨SqL.of upd_same, fun p np => ?_⟩⟩⟩
    have sp := sh.trans ((Same.new (o := .lst ([.str "mix"] ++ ps)) nc).trans (Same.new (o := .tup ([.str "mix"] ++ ps)) np))
    refine w' _ _ (.nd (.mix ws) us) (k04.trans (k5.trans (Kp.of (s5.trans sp)))) (R5.same (s5.trans sp)) (fit_wide (by omega) (by omega) (fun e => by cases e) ⟨⟨by omega, by omega⟩, by rw [wl, ul], sw⟩ gU ⟨ys, ⟨p, ps, rfl, SqT.of upd_same, by omega, by rw [wl, yl], fun j y x f a b c => ?_⟩, hU5.mono fun _ _ z => z.same (s5.trans sp)⟩)
    obtain ⟨q', wv, e', h1, h2⟩ := hps j y x f a b c
    exact ⟨q', wv, e', Same.T sp h1, h2.same sp⟩
end
section
variable {P : Program} {w : World} {K : PySem.W.Frag} {mg : Str → Option Value} {base : Heap} {a : Ad}
theorem Good.fit4 {K : PySem.W.Frag} {H : Hp} {ss : List Str} {v : V} {t : Tm} (h : TmAt K H 4 v t) (g : Good ss 4 t) : FitT K H ss v t := ⟨h.le (by decide), (g.le (m := 12) (by decide)).vok, flats_in g, g.bt (b := 40), g.size, g.wt⟩
theorem FitT.rw {K : PySem.W.Frag} {H : Hp} {ss : List Str} {v : V} {t : Tm} (ft : FitT K H ss v t) (nm : ∀ s ∈ ss, s.length ≤ 4000) : RwAt K H 12 v t.raw ∧ t.raw.size ≤ 40 ∧ WR ss 4 t.raw := ⟨ft.at'.rawV ft.vok fun s hs => nm s (ft.fin s hs), by rw [raw_size]; exact ft.size, ft.wt.wr⟩

def sp_l_narrow_term (K : PySem.W.Frag) : Sp := fun vs H Q _ => ∃ (r nl : Addr) (ss : List Str) (d : Int), vs = [.ref r, .ref nl, .int d] ∧ Rg H r ∧ nl ≠ r ∧ SqL K H nl (ss.map V.str) ∧ 0 < ss.length ∧ ss.length ≤ 60 ∧ 1 < d ∧ (∀ s ∈ ss, s.length ≤ 4000) ∧ ∃ m : Nat, 2 ≤ m ∧ m ≤ 3 ∧ d ≤ (m : Int) + 1 ∧ ∀ v H' t, Kp r H H' → Rg H' r → RwAt K H' 12 v t → t.size ≤ 40 → WR ss (m + 1) t → Q v H'

theorem ok_l_narrow_term (T : Txt K mg a) : FnOk P w K mg base CX0 42 a.f_l_narrow_term a.fd_l_narrow_term ["_law_rng", "_law_names_here", "_law_deep"] (sp_l_narrow_term K) := by
  have G_l_wide_term := ok_l_wide_term (P := P) (w := w) (base := base) T
  have G_l_term := ok_l_term (P := P) (w := w) (base := base) T
  have G_l_draw := ok_l_draw (P := P) (w := w) (base := base) T
  have G_l_many_lines := ok_l_many_lines (P := P) (w := w) (base := base) T
  have G_l_operands := ok_l_operands (P := P) (w := w) (base := base) T
  refine T.F_l_narrow_term.ok sc_l_narrow_term (fun vs H Q E h => ?_) (fun cdv A outer s H vs Q E hr h => ?_)
  · obtain ⟨r, nl, ss, d, rfl, _⟩ := h
    rfl
  · obtain ⟨r, nl, ss, d, rfl, R0, nlr, hnl, s0, s60, d1, nm, m, m2, m3, hm, w⟩ := h
    refine ⟨_, (pss_cons (ps_set (i := 3) sc_l_narrow_term.nd rfl (by first | exact Or.inl rfl | exact Or.inr rfl) (pe_and (pe_cmpR op_gt (pv 2) pe_int (nomark _)) (pe_one (pe_cmpR op_eq (pe_call G_l_draw (hr.mono (by first | decide | omega)) (by rfl) T.g_l_draw T.F_l_draw.kp T.b_l_draw .nil pass0 (pa_cons (pv 0) (pa_cons pe_int pa_nil))) pe_int (nomark _)))))
          (pss_cons (ps_set (i := 4) sc_l_narrow_term.nd rfl (by first | exact Or.inl rfl | exact Or.inr rfl) (pe_ifExp (pt_val (pv 3)) (pe_call G_l_wide_term (hr.mono (by first | decide | omega)) (by rfl) T.g_l_wide_term T.F_l_wide_term.kp T.b_l_wide_term .nil pass0 (pa_cons (pv 0) (pa_cons (pv 1) pa_nil))) (pe_call G_l_term (hr.mono (by first | decide | omega)) (by rfl) T.g_l_term T.F_l_term.kp T.b_l_term .nil pass0 (pa_cons (pv 0) (pa_cons (pv 1) (pa_cons (pv 2) pa_nil))))))
          (pss_cons (ps_for PassesOwn.never rfl (pi_range1 (by rfl) T.n_range (pa_cons pe_int pa_nil)) (pg_name (i := 5) sc_l_narrow_term.nd rfl (by first | exact Or.inl rfl | exact Or.inr rfl)) (pss_one (ps_if (pt_cmpR op_gt (pe_call G_l_many_lines (hr.mono (by first | decide | omega)) (by rfl) T.g_l_many_lines T.F_l_many_lines.kp T.b_l_many_lines .nil pass0 (pa_cons (pv 4) pa_nil)) pe_int (nomark _)) (pss_one (ps_set (i := 4) sc_l_narrow_term.nd rfl (by first | exact Or.inl rfl | exact Or.inr rfl) (pe_ix ix_list (pe_call G_l_operands (hr.mono (by first | decide | omega)) (by rfl) T.g_l_operands T.F_l_operands.kp T.b_l_operands .nil pass0 (pa_cons (pv 4) pa_nil)) pe_int (fun _ _ => rfl)))) pss_nil)))
          (pss_one (ps_ret (pv 4)))))), ?_⟩
    refine ⟨.int d, rfl, d, 1, rfl, rfl, ?_⟩
    have hd : decide ((1 : Int) < d) = true := decide_eq_true d1
    refine ⟨true, congrArg V.bl hd, ifT rfl ?_⟩
    refine ⟨.ref r, rfl, r, 7, rfl, R0, by decide, by decide, fun dz H1 z0 z1 k1 R1 => ⟨rfl, ?_⟩⟩
    have hnl1 := k1.L nlr hnl
    refine go_name ?_
    dsimp only
    refine go_seq (go_asg ?_)
    refine both (te := tIf _ _ _) (fun v H' => ∃ t, Kp r H H' ∧ Rg H' r ∧ RwAt K H' 12 v t ∧ t.size ≤ 40 ∧ WR ss (m + 1) t) (fun v H5 h5 => ?_) (fun Q' hQ => ?_)
    rotate_left
    · refine ⟨_, rfl, _, rfl, ite2 (fun e => ?_) (fun e => ?_)⟩
      · exact ⟨.ref r, rfl, .ref nl, rfl, r, nl, ss, rfl, R1, nlr, hnl1, by omega, by omega, fun v6 H6 t6 k6 R6 f6 g6 => hQ _ _ ⟨t6.raw, k1.trans k6, R6, (f6.rw nm).1, (f6.rw nm).2.1, (g6.wr).le (by omega)⟩⟩
      · exact ⟨.ref r, rfl, .ref nl, rfl, .int d, rfl, r, nl, ss, d, rfl, R1, nlr, hnl1, by omega, by omega, m, m3, hm, fun v6 H6 t6 k6 R6 h6 g6 => hQ _ _ ⟨t6.raw, k1.trans k6, R6, ((Good.fit4 (h6.le (by omega)) (g6.le (by omega))).rw nm).1, ((Good.fit4 (h6.le (by omega)) (g6.le (by omega))).rw nm).2.1, g6.wt.wr⟩⟩
    obtain ⟨t, k5, R5, ht, tz, tw⟩ := h5
    refine go_name ?_
    dsimp only
    refine go_seq ?_
    refine ⟨6, rfl, by decide, by decide, for_range (n := 6) (fun i σ H' => ∃ y3 v y5 t, σ = [some (.ref r), some (.ref nl), some (.int d), y3, some v, y5] ∧ Kp r H H' ∧ Rg H' r ∧ RwAt K H' 12 v t ∧ t.size ≤ 40 ∧ WR ss (m + 1) t) ⟨_, v, _, t, rfl, k5, R5, ht, tz, tw⟩ ?_ ?_⟩
    · rintro i σ H6 hi ⟨y3, v, y5, t, rfl, k6, R6, ht, tz, tw⟩
      refine ⟨v, rfl, v, t, rfl, ht.le (by decide), by omega, fun H7 mm s7 mb m1 => ⟨_, 12, rfl, rfl, _, rfl, ite2 (fun e => ?_) (fun e => ?_)⟩⟩
      · have m12 := of_decide_eq_true e
        refine ⟨v, rfl, v, t, 11, rfl, ht.same s7, fun l H8 xs s8 nl8 hl8 hA8 => ?_⟩
        cases hs : t.subs with
        | nil => have := m1 hs; omega
        | cons u us =>
          rw [hs] at hA8
          cases xs with
          | nil => have := hA8.1; cases this
          | cons x xs =>
            refine ⟨l, _, 0, _, rfl, rfl, SqL.of hl8, atI_nat (j := 0) rfl, _, x, _, u, rfl, k6.trans (Kp.of (s7.trans s8)), R6.same (s7.trans s8), hA8.uncons.1.le (by decide), ?_, tw.sub (by rw [hs]; exact List.mem_cons_self)⟩
            have e1 := t.size_eq
            rw [hs, Rw.sizes] at e1
            omega
      · exact ⟨_, v, _, t, rfl, k6.trans (Kp.of s7), R6.same s7, ht.same s7, tz, tw⟩
    · rintro σ H6 ⟨y3, v, y5, t, rfl, k6, R6, ht, tz, tw⟩
      exact ⟨v, rfl, w v H6 t k6 R6 ht tz tw⟩
end
section
variable {P : Program} {w : World} {K : PySem.W.Frag} {mg : Str → Option Value} {base : Heap} {a : Ad}
/-- a row as the law draws and changes it -/
def RowOk (r : Row) (B : Nat) : Prop := okNm r.1 ∧ r.2.size ≤ B

def sp_l_rows (K : PySem.W.Frag) : Sp := fun vs H Q _ => ∃ (r : Addr) (q d : Int), vs = [.ref r, .int q, .int d] ∧ Rg H r ∧ 1 ≤ q ∧ q ≤ 8 ∧ 1 < d ∧ ∃ m : Nat, 2 ≤ m ∧ m ≤ 3 ∧ d ≤ (m : Int) + 1 ∧ ∀ l xs rs H', Kp r H H' → Rg H' r → l ≠ r → H' l = some (.lst xs) → AllG (RowAt K H' 12) xs rs → 1 ≤ rs.length → rs.length ≤ q.toNat → (∀ z ∈ rs, RowOk z 40) → Drw rs → (∀ z ∈ rs, WR (rs.map Prod.fst) (m + 1) z.2) → Q (.ref l) H'

theorem ok_l_rows (T : Txt K mg a) : FnOk P w K mg base CX0 43 a.f_l_rows a.fd_l_rows ["_law_rng", "_law_limit", "_law_deep"] (sp_l_rows K) := by
  have G_l_names := ok_l_names (P := P) (w := w) (base := base) T
  have G_l_draw := ok_l_draw (P := P) (w := w) (base := base) T
  have G_l_narrow_term := ok_l_narrow_term (P := P) (w := w) (base := base) T
  refine T.F_l_rows.ok sc_l_rows (fun vs H Q E h => ?_) (fun cdv A outer s H vs Q E hr h => ?_)
  · obtain ⟨r, q, d, rfl, _⟩ := h
    rfl
  · obtain ⟨r, q, d, rfl, R0, q1, q8, d1, mw, mw2, mw3, hmw, w⟩ := h
    refine ⟨_, (pss_cons (ps_set (i := 3) sc_l_rows.nd rfl (by first | exact Or.inl rfl | exact Or.inr rfl) (pe_call G_l_names (hr.mono (by first | decide | omega)) (by rfl) T.g_l_names T.F_l_names.kp T.b_l_names .nil pass0 (pa_cons (pv 0) (pa_cons (pe_op op_add pe_int (pe_call G_l_draw (hr.mono (by first | decide | omega)) (by rfl) T.g_l_draw T.F_l_draw.kp T.b_l_draw .nil pass0 (pa_cons (pv 0) (pa_cons (pv 1) pa_nil)))) pa_nil))))
          (pss_one (ps_ret (pe_lc (own := [("_law_name", 4)]) (g := gName 4) rfl sc_l_rows.nd (pi_list (pv 3)) (blkOk_by (own := [("_law_name", 4)]) (N := ["_law_rng", "_law_limit", "_law_deep", "_law_names_here", "_law_name"]) (sc := defScope s_l_rows) (by decide +kernel)) (fun _ _ _ _ _ => (pg_name (i := 4) sc_l_rows.nd rfl (Or.inl rfl))) (fun _ _ _ _ _ => pts_nil) (fun _ _ _ _ _ => (pe_tup (pa_cons (pv 4) (pa_cons (pe_call G_l_narrow_term (hr.mono (by first | decide | omega)) (by rfl) T.g_l_narrow_term T.F_l_narrow_term.kp T.b_l_narrow_term .nil pass0 (pa_cons (pv 0) (pa_cons (pv 3) (pa_cons (pv 2) pa_nil)))) pa_nil)))))))), ?_⟩
    refine ⟨.ref r, rfl, .ref r, rfl, .int q, rfl, r, q, rfl, R0, by omega, by omega, fun dz H1 z0 z1 k1 R1 => ⟨1, dz, rfl, rfl, ?_⟩⟩
    have ez : (1 : Int) + dz = ((1 + dz.toNat : Nat) : Int) := by omega
    refine ⟨r, 1 + dz.toNat, congrArg (fun z => [V.ref r, V.int z]) ez, R1, by omega, by omega, fun nl H2 ss k2 R2 hnl nlr ssl nd nm => ?_⟩
    refine ⟨.ref nl, rfl, nl, rfl, ⟨_, SqL.of hnl⟩, fun D nD => ?_⟩
    have Dr : D ≠ r := fun z => by obtain ⟨o, e⟩ := R2.some; rw [← z, nD] at e; cases e
    have nlD : nl ≠ D := ne_of_none hnl nD
    have sD := Same.new (o := .lst []) nD
    have k12 := k1.trans k2
    refine lc_list (K := K) (a := nl) (xs := ss.map V.str) (fun i H3 => Kp r H2 H3 ∧ Rg H3 r ∧ H3 nl = some (.lst (ss.map V.str)) ∧ ∃ ys rs, H3 D = some (.lst ys) ∧ AllG (RowAt K H3 12) ys rs ∧ rs.length = i ∧ (∀ z ∈ rs, RowOk z 40) ∧ rs.map Prod.fst = ss.take i ∧ ∀ z ∈ rs, WR ss (mw + 1) z.2) ⟨Kp.of sD, R2.same sD, sD _ _ hnl, [], [], upd_same, AllG.nil, rfl, (fun z hz => by cases hz), rfl, fun z hz => by cases hz⟩ (fun i H3 _ h3 => SqL.of h3.2.2.1) ?_ ?_
    · rintro i x H3 hx ⟨k3, R3, hnl3, ys, rs, hD3, hA3, rl, ok3, nm3, wr3⟩
      obtain ⟨s, hs, rfl⟩ := strs_at hx
      have il := (List.getElem?_eq_some_iff.mp hs).1
      have ns := nm s (List.mem_of_getElem? hs)
      refine ⟨rfl, tYes_if ?_⟩
      refine ⟨.str s, rfl, .ref r, rfl, .ref nl, rfl, .int d, rfl, r, nl, ss, d, rfl, R3, nlr, SqL.of hnl3, by omega, by omega, d1, (fun z hz => by have := (nm_ok (nm z hz)).2; omega), mw, mw2, mw3, hmw, fun v H4 t k4 R4 ht tz tw => ⟨sz (by show 2 ≤ 100000; decide), fun q nq => ?_⟩⟩
      have sq := Same.new (o := .tup [.str s, v]) nq
      have hD5 := sq _ _ (k4.1 _ _ Dr hD3)
      refine ⟨ys, hD5, szl (by have := hA3.1; omega), ?_, ?_, ?_, ys ++ [.ref q], rs ++ [(s, t)], upd_same, ?_, ?_, ?_, ?_, ?_⟩
      · exact Kp.put (H := H2) nD Dr ((k3.trans k4).trans (Kp.of sq))
      · exact Rg.put R2 nD ((k3.trans k4).trans (Kp.of sq)) (R4.same sq)
      · rw [upd_ne nlD]; exact sq _ _ (k4.1 _ _ nlr hnl3)
      · exact (hA3.mono fun _ _ z => ((z.kp R3 k4).same sq).put hD5).app (AllG.one (RowAt.put hD5 ⟨q, v, rfl, SqT.of upd_same, ht.same sq⟩))
      · rw [List.length_append, rl]; rfl
      · intro z hz
        rcases List.mem_append.mp hz with h | h
        · exact ok3 z h
        · rw [List.mem_singleton.mp h]; exact ⟨nm_ok ns, tz⟩
      · rw [List.map_append, nm3, List.take_add_one, hs]; rfl
      · intro z hz
        rcases List.mem_append.mp hz with h | h
        · exact wr3 z h
        · rw [List.mem_singleton.mp h]; exact tw
    · rintro H3 ⟨k3, R3, hnl3, ys, rs, hD3, hA3, rl, ok3, nm3, wr3⟩
      rw [List.length_map] at rl nm3
      rw [List.take_length] at nm3
      have dw : Drw rs := ⟨by rw [nm3]; exact nd, fun z hz => nm _ (by rw [← nm3]; exact List.mem_map.mpr ⟨z, hz, rfl⟩), fun z hz => by rw [nm3]; exact (wr3 z hz).le (by omega), fun z hz => (ok3 z hz).2⟩
      exact w D ys rs H3 (k12.trans k3) R3 Dr hD3 hA3 (by omega) (by omega) ok3 dw fun z hz => by rw [nm3]; exact wr3 z hz
end
section
variable {P : Program} {w : World} {K : PySem.W.Frag} {mg : Str → Option Value} {base : Heap} {a : Ad}
def sp_l_initial_times (K : PySem.W.Frag) : Sp := fun vs H Q _ => ∃ (r l : Addr) (xs : List V), vs = [.ref r, .ref l] ∧ Rg H r ∧ l ≠ r ∧ H l = some (.lst xs) ∧ xs.length ≤ 1000 ∧ ∀ lo os qs H', Kp r H H' → Rg H' r → lo ≠ r → H lo = none → H' lo = some (.lst os) → FRs K H' os qs 5 → qs.length = xs.length → Q (.ref lo) H'

theorem ok_l_initial_times (T : Txt K mg a) : FnOk P w K mg base CX0 4 a.f_l_initial_times a.fd_l_initial_times ["_law_rng", "_law_rows_here"] (sp_l_initial_times K) := by
  have G_l_small := ok_l_small (P := P) (w := w) (base := base) T
  refine T.F_l_initial_times.ok sc_l_initial_times (fun vs H Q E h => ?_) (fun cdv A outer s H vs Q E hr h => ?_)
  · obtain ⟨r, l, xs, rfl, _⟩ := h
    rfl
  · obtain ⟨r, l, xs, rfl, R0, lr, hl, x1, w'⟩ := h
    refine ⟨_, (pss_one (ps_ret (pe_lc (own := [("_law_row", 2)]) (g := gName 2) rfl sc_l_initial_times.nd (pi_list (pv 1)) (blkOk_by (own := [("_law_row", 2)]) (N := ["_law_rng", "_law_rows_here", "_law_row"]) (sc := defScope s_l_initial_times) (by decide +kernel)) (fun _ _ _ _ _ => (pg_name (i := 2) sc_l_initial_times.nd rfl (Or.inl rfl))) (fun _ _ _ _ _ => pts_nil) (fun _ _ _ _ _ => (pe_call G_l_small (hr.mono (by first | decide | omega)) (by rfl) T.g_l_small T.F_l_small.kp T.b_l_small .nil pass0 (pa_cons (pv 0) pa_nil)))))), ?_⟩
    refine ⟨.ref l, rfl, l, rfl, ⟨_, SqL.of hl⟩, fun D nD => ?_⟩
    have Dr : D ≠ r := R0.ne nD
    have lD : l ≠ D := ne_of_none hl nD
    refine lc_list (K := K) (a := l) (xs := xs) (fun i H6 => Kp r H H6 ∧ Rg H6 r ∧ H6 l = some (.lst xs) ∧ ∃ os qs, H6 D = some (.lst os) ∧ FRs K H6 os qs 5 ∧ os.length = i) ⟨Kp.of (Same.new nD), R0.same (Same.new nD), (Same.new nD) _ _ hl, [], [], upd_same, FRs.nil, rfl⟩ (fun i H6 _ h6 => SqL.of h6.2.2.1) ?_ ?_
    · rintro i x H6 hx ⟨k6, R6, hl6, os, qs, hD, hO, ol⟩
      have il := (List.getElem?_eq_some_iff.mp hx).1
      refine ⟨rfl, tYes_if ⟨.ref r, rfl, r, rfl, R6, fun v H7 n d k7 R7 fb => ?_⟩⟩
      have hD7 := k7.1 _ _ Dr hD
      have kk := k6.trans k7
      refine ⟨os, hD7, szl (by omega), Kp.put (H := H) nD Dr kk, Rg.put R0 nD kk R7, ?_, os ++ [v], qs ++ [toR (n, d)], upd_same, ?_, by rw [List.length_append, ol]; rfl⟩
      · rw [upd_ne lD]; exact k7.1 _ _ lr hl6
      · exact (hO.mono fun _ _ y => (y.kp R6 k7).put hD7).snoc ((FR.of' fb).put hD7)
    rintro H6 ⟨k6, R6, hl6, os, qs, hD, hO, ol⟩
    exact w' D os qs H6 k6 R6 Dr nD hD hO (by rw [← hO.len, ol])
end
section
variable {P : Program} {w : World} {K : PySem.W.Frag} {mg : Str → Option Value} {base : Heap} {a : Ad}
def uName : List Str := ["q", "qq", "qqq", "qqqq", "qqqqq", "qqqqqq", "zz", "zzz"]
theorem uName_ok : ∀ s ∈ uName, nameB s = true := by decide +kernel
theorem nd_len : ∀ {l m : List Str}, l.Nodup → (∀ x ∈ l, x ∈ m) → l.length ≤ m.length
  | [], _, _, _ => Nat.zero_le _
  | x :: l, m, nd, h => by
    rw [List.nodup_cons] at nd
    have hx := h x List.mem_cons_self
    have h2 := nd_len (l := l) (m := m.erase x) nd.2 fun y hy => (List.mem_erase_of_ne (show y ≠ x from fun e => nd.1 (by rw [← e]; exact hy))).mpr (h y (List.mem_cons_of_mem _ hy))
    have h3 := List.length_erase_of_mem hx
    have h4 := List.length_pos_of_mem hx
    rw [List.length_cons]
    omega
def sp_l_unused_name (K : PySem.W.Frag) : Sp := fun vs H Q _ => ∃ (l : Addr) (ns : List Str), vs = [.ref l] ∧ H l = some (.lst (ns.map V.str)) ∧ ns.length ≤ 7 ∧ ∀ u H', Same H H' → nameB u = true → u ∉ ns → Q (.str u) H'
theorem uName_one {ns : List Str} (h : ns.length ≤ 7) : ∃ u us, (uName.filter fun s => !decide (s ∈ ns)) = u :: us ∧ nameB u = true ∧ u ∉ ns := by
  cases e : uName.filter fun s => !decide (s ∈ ns) with
  | nil =>
    exfalso
    have hs : ∀ s ∈ uName, s ∈ ns := fun s hs => by
      have := List.filter_eq_nil_iff.mp e s hs
      rw [Bool.not_eq_true, Bool.not_eq_false'] at this
      exact of_decide_eq_true this
    have nd : uName.Nodup := by decide +kernel
    have := nd_len nd hs
    have l8 : uName.length = 8 := rfl
    omega
  | cons u us =>
    have hu : u ∈ uName.filter fun s => !decide (s ∈ ns) := by rw [e]; exact List.mem_cons_self
    obtain ⟨h1, h2⟩ := List.mem_filter.mp hu
    exact ⟨u, us, rfl, uName_ok u h1, fun z => by rw [decide_eq_true z] at h2; cases h2⟩

theorem ok_l_unused_name (T : Txt K mg a) : FnOk P w K mg base CX0 1 a.f_l_unused_name a.fd_l_unused_name ["_law_names_here"] (sp_l_unused_name K) := by
  refine T.F_l_unused_name.ok sc_l_unused_name (fun vs H Q E h => ?_) (fun cdv A outer s H vs Q E hr h => ?_)
  · obtain ⟨l, ns, rfl, _⟩ := h
    rfl
  · obtain ⟨l, ns, rfl, hl, n7, w⟩ := h
    refine ⟨_, (pss_one (ps_ret (pe_ix ix_list (pe_lc (own := [("_law_name", 1)]) (g := gName 1) rfl sc_l_unused_name.nd (pi_list (pe_lst (pa_cons pe_str (pa_cons pe_str (pa_cons pe_str (pa_cons pe_str (pa_cons pe_str (pa_cons pe_str (pa_cons pe_str (pa_cons pe_str pa_nil)))))))))) (blkOk_by (own := [("_law_name", 1)]) (N := ["_law_names_here", "_law_name"]) (sc := defScope s_l_unused_name) (by decide +kernel)) (fun _ _ _ _ _ => (pg_name (i := 1) sc_l_unused_name.nd rfl (Or.inl rfl))) (fun _ _ _ _ _ => (pts_one (pt_cmpR (notInK (K := K) rfl) (pv 1) (pv 0) (by rfl)))) (fun _ _ _ _ _ => (pv 1))) pe_int (fun _ _ => rfl)))), ?_⟩
    refine ⟨sz (by show 8 ≤ 100000; decide), fun b nb => ?_⟩
    have s1 := Same.new (o := .lst (uName.map V.str)) nb
    refine ⟨b, rfl, ⟨_, SqL.of upd_same⟩, fun D nD => ?_⟩
    have s2 := Same.new (o := .lst []) nD
    have hl2 := s2 _ _ (s1 _ _ hl)
    refine lc_list (K := K) (a := b) (xs := uName.map V.str) (fun i H3 => Same (upd H b (.lst (uName.map V.str))) H3 ∧ H3 D = some (.lst (((uName.take i).filter fun s => !decide (s ∈ ns)).map V.str))) ⟨s2, upd_same⟩ (fun i H3 _ h3 => SqL.of (h3.1 _ _ upd_same)) ?_ ?_
    · rintro i x H3 hx ⟨s3, hD⟩
      obtain ⟨s, hs, rfl⟩ := strs_at hx
      have tk : uName.take (i + 1) = uName.take i ++ [s] := by rw [List.take_add_one, hs]; rfl
      refine ⟨rfl, .str s, rfl, .ref l, rfl, l, _, rfl, .inl (SqL.of (s3 _ _ (s1 _ _ hl))), rfl, flat_strs _, _, rfl, ?_⟩
      show (if (!inV (.str s) _) = true then _ else _)
      rw [in_strs]
      have ft : (uName.take (i + 1)).filter (fun s => !decide (s ∈ ns)) = (uName.take i).filter (fun s => !decide (s ∈ ns)) ++ if (!decide (s ∈ ns)) = true then [s] else [] := by
        rw [tk, List.filter_append, List.filter_cons, List.filter_nil]
      rw [ft]
      cases hv : decide (s ∈ ns) with
      | true =>
        refine ifF rfl ⟨s3, ?_⟩
        rw [if_neg (by decide), List.append_nil]
        exact hD
      | false =>
        refine ifT rfl ⟨.str s, rfl, _, hD, ?_, fun b o e => ?_, ?_⟩
        · have := List.length_filter_le (fun s : Str => !decide (s ∈ ns)) (uName.take i)
          rw [List.length_take] at this
          have l8 : uName.length = 8 := rfl
          rw [List.length_map]; exact szl (by omega)
        · rw [upd_ne (ne_of_none e nD)]; exact s3 _ _ e
        · rw [upd_same, if_pos (show (!false) = true from rfl), List.map_append]; rfl
    · rintro H3 ⟨s3, hD⟩
      rw [List.length_map, List.take_length] at hD
      obtain ⟨u, us, e, nu, hu⟩ := uName_one n7
      rw [e] at hD
      refine ⟨D, _, 0, _, rfl, rfl, SqL.of hD, atI_nat (j := 0) rfl, ?_⟩
      exact w u H3 (s1.trans s3) nu hu
end
section
variable {P : Program} {w : World} {K : PySem.W.Frag} {mg : Str → Option Value} {base : Heap} {a : Ad}
theorem hnd_l_error {X : Cx} {a : Ad} (T : Txt X.K X.mg a) {q : Str} {cdv : Value} : LmN.Hands X ["_law_ask"] "_law_error" (defScope s_l_error) a.f_l_error cdv (defBody s_l_error) "_law_ask" "_law_outcome" q (TTo X.K a) (TTe X.K a) := LmS.hands_of (hndF_l_error T)
theorem cutFromL (xs : List V) (q : Nat) (h : q ≤ xs.length) : cutV xs (some (q : Int)) none = xs.drop q := by
  unfold cutV
  rw [HT.sIx_none, show HT.sIx xs.length 0 (some (q : Int)) = min q xs.length from HT.sIx_nat xs.length 0 q, show min q xs.length = q by omega, List.take_of_length_le (by rw [List.length_drop]; omega)]
theorem firm_ext {H H' : Hp} (e : LamX.ExtN H H') : LmS.Firm H H' := fun b o _ n h => e b o h n
theorem firm_same {H H' : Hp} (e : Same H H') : LmS.Firm H H' := fun b o _ _ h => e b o h
theorem firm_set {H : Hp} {L : Addr} {ys zs : List V} (h : H L = some (.lst ys)) : LmS.Firm H (upd H L (.lst zs)) := fun b o n _ e => by
  rw [upd_ne fun z => n ys (by rw [z, h] at e; exact (Option.some.inj e).symm)]
  exact e
theorem tabs_set {T : List (Addr × Str)} {H : Hp} {l : Addr} {xs ys : List V} (t : LamX.Tabs T H) (hl : H l = some (.lst xs)) : LamX.Tabs T (upd H l (.lst ys)) := fun p hp => by
  obtain ⟨ps, h1, h2, h3⟩ := t p hp
  refine ⟨ps, by rw [upd_ne (ne_of h1 hl (fun z => by cases z))]; exact h1, h2, fun pos cv hc => ?_⟩
  obtain ⟨c2, e1, e2⟩ := h3 pos cv hc
  exact ⟨c2, e1, by rw [upd_ne (ne_of e2 hl (fun z => by unfold LamX.CodeO at z; cases z))]; exact e2⟩
/-- the list of another length -/
structure O30 (K : PySem.W.Frag) (H : Hp) (O r : Addr) (zs : List V) (n : Nat) : Prop where
  Or : O ≠ r
  hl : H O = some (.lst zs)
  ne : zs.length ≠ n
theorem O30.kp {K : PySem.W.Frag} {H H' : Hp} {O r : Addr} {zs : List V} {n : Nat} (h : O30 K H O r zs n) (k : Kp r H H') : O30 K H' O r zs n := ⟨h.Or, k.1 _ _ h.Or h.hl, h.ne⟩
theorem O30.same {K : PySem.W.Frag} {H H' : Hp} {O r : Addr} {zs : List V} {n : Nat} (h : O30 K H O r zs n) (k : Same H H') : O30 K H' O r zs n := ⟨h.Or, k _ _ h.hl, h.ne⟩
theorem O30.ext {K : PySem.W.Frag} {H H' : Hp} {O r : Addr} {zs : List V} {n : Nat} (h : O30 K H O r zs n) (k : LamX.ExtN H H') : O30 K H' O r zs n := ⟨h.Or, k _ _ h.hl (fun ps z => by cases z), h.ne⟩
/-- what stands in a turn -/
structure C30 (K : PySem.W.Frag) (a : Ad) (H : Hp) (r l x B : Addr) (xs os : List V) (rs : List Row) : Prop where
  R : Rg H r
  T : LamX.Tabs (tabs a) H
  lr : l ≠ r
  hl : H l = some (.lst xs)
  hA : AllG (RowAt K H 12) xs rs
  sy : SysAt K H a.C_EventSystem x 12 rs
  Br : B ≠ r
  hB : H B = some (.lst os)
section
variable {H H' : Hp} {r l x B : Addr} {xs os : List V} {rs : List Row}
theorem C30.kp (h : C30 K a H r l x B xs os rs) (k : Kp r H H') (R' : Rg H' r) : C30 K a H' r l x B xs os rs := ⟨R', Tabs.kp h.T h.R k, h.lr, k.1 _ _ h.lr h.hl, h.hA.mono fun _ _ z => z.kp h.R k, h.sy.kp h.R k, h.Br, k.1 _ _ h.Br h.hB⟩
theorem C30.same (h : C30 K a H r l x B xs os rs) (s : Same H H') : C30 K a H' r l x B xs os rs := h.kp (Kp.of s) (h.R.same s)
theorem C30.ext (h : C30 K a H r l x B xs os rs) (e : LamX.ExtN H H') (T' : LamX.Tabs (tabs a) H') : C30 K a H' r l x B xs os rs := ⟨ExtN.rg e h.R, T', h.lr, e _ _ h.hl (fun ps z => by cases z), h.hA.mono fun _ _ z => z.imp fun _ _ q => ExtN.T e q, h.sy.ext e, h.Br, e _ _ h.hB (fun ps z => by cases z)⟩
end

def sp_p_law (K : PySem.W.Frag) (a : Ad) : Sp := fun vs H Q _ => ∃ (b : Addr) (ns : List Int), vs = [.ref b] ∧ SqL K H b (ns.map V.int) ∧ ns.length ≤ 63 ∧ (∀ p ∈ tabs a, H p.1 = some (.tbl #[])) ∧ ∀ H', Q (.bl true) H'

theorem ok_p_law (T : Txt K mg a) (TB : LamX.TabB base mg a.cL a.tL) : FnOk P w K mg base CX0 60 a.f_p_law a.fd_p_law ["_law_script"] (sp_p_law K a) := by
  have G_l_source := ok_l_source (P := P) (w := w) (base := base) T
  have G_l_rows := ok_l_rows (P := P) (w := w) (base := base) T
  have G_l_choice := ok_l_choice (P := P) (w := w) (base := base) T
  have G_l_unused_name := ok_l_unused_name (P := P) (w := w) (base := base) T
  have G_l_initial_times := ok_l_initial_times (P := P) (w := w) (base := base) T
  have G_l_equal := ok_l_equal (P := P) (w := w) (base := base) T
  have G_p_is_regime := ok_p_is_regime (P := P) (w := w) (base := base) T
  have G_l_draw := ok_l_draw (P := P) (w := w) (base := base) T
  have G_p_rate_of := ok_p_rate_of (P := P) (w := w) (base := base) T
  have G_o_EventSystem_init := ok_o_EventSystem_init (P := P) (w := w) (base := base) T
  have Gx_p_is_regime := okx_p_is_regime (P := P) (w := w) (base := base) T
  have Gx_p_rate_of := okx_p_rate_of (P := P) (w := w) (base := base) T
  have Gx_o_EventSystem_init := okx_o_EventSystem_init (P := P) (w := w) (base := base) T
  refine T.F_p_law.ok sc_p_law (fun vs H Q E h => ?_) (fun A outer s H vs Q E hr h => ?_)
  · obtain ⟨b, ns, rfl, _⟩ := h
    rfl
  obtain ⟨b, ns, rfl, hS, hlen, hT0, w'⟩ := h
  refine ⟨_, (pss_cons (ps_set (i := 1) sc_p_law.nd rfl (by first | exact Or.inl rfl | exact Or.inr rfl) (pe_call G_l_source (hr.mono (by first | decide | omega)) (by rfl) T.g_l_source T.F_l_source.kp T.b_l_source .nil pass0 (pa_cons (pv 0) pa_nil)))
      (pss_cons (ps_for PassesOwn.never rfl (pi_range1 (by rfl) T.n_range (pa_cons pe_int pa_nil)) (pg_name (i := 2) sc_p_law.nd rfl (by first | exact Or.inl rfl | exact Or.inr rfl)) (pss_cons (ps_set (i := 3) sc_p_law.nd rfl (by first | exact Or.inl rfl | exact Or.inr rfl) (pe_call G_l_rows (hr.mono (by first | decide | omega)) (by rfl) T.g_l_rows T.F_l_rows.kp T.b_l_rows .nil pass0 (pa_cons (pv 1) (pa_cons pe_int (pa_cons pe_int pa_nil)))))
      (pss_cons (ps_asg (pe_tup (pa_cons (pe_make T.mk_EventSystem G_o_EventSystem_init (hr.mono (by first | decide | omega)) (by rfl) T.gC_EventSystem T.b_o_EventSystem_init .nil pass0 (pa_cons (pv 3) pa_nil)) (pa_cons (pe_call G_l_initial_times (hr.mono (by first | decide | omega)) (by rfl) T.g_l_initial_times T.F_l_initial_times.kp T.b_l_initial_times .nil pass0 (pa_cons (pv 1) (pa_cons (pv 3) pa_nil))) pa_nil))) (pg_tup rfl (pgs_cons (pg_name (i := 4) sc_p_law.nd rfl (by first | exact Or.inl rfl | exact Or.inr rfl)) (pgs_cons (pg_name (i := 5) sc_p_law.nd rfl (by first | exact Or.inl rfl | exact Or.inr rfl)) pgs_nil))))
      (pss_cons (ps_set (i := 6) sc_p_law.nd rfl (by first | exact Or.inl rfl | exact Or.inr rfl) (pe_call G_l_choice (hr.mono (by first | decide | omega)) (by rfl) T.g_l_choice T.F_l_choice.kp T.b_l_choice .nil pass0 (pa_cons (pv 1) (pa_cons (pe_lst (pa_cons (pe_slice sl_list (pv 5) (po_some pe_int) po_none) (pa_cons (pe_op op_cat (pv 5) (pe_lst (pa_cons (pe_tup (pa_cons pe_int (pa_cons pe_int pa_nil))) pa_nil))) (pa_cons (pe_lst pa_nil) pa_nil)))) pa_nil))))
      (pss_cons (ps_set (i := 7) sc_p_law.nd rfl (by first | exact Or.inl rfl | exact Or.inr rfl) (pe_op op_sub (pe_un un_neg pe_int) (pe_call G_l_choice (hr.mono (by first | decide | omega)) (by rfl) T.g_l_choice T.F_l_choice.kp T.b_l_choice .nil pass0 (pa_cons (pv 1) (pa_cons (pe_lst (pa_cons pe_int (pa_cons (pe_call G_l_draw (hr.mono (by first | decide | omega)) (by rfl) T.g_l_draw T.F_l_draw.kp T.b_l_draw .nil pass0 (pa_cons (pv 1) (pa_cons pe_int pa_nil))) (pa_cons (pe_call G_l_draw (hr.mono (by first | decide | omega)) (by rfl) T.g_l_draw T.F_l_draw.kp T.b_l_draw .nil pass0 (pa_cons (pv 1) (pa_cons (pe_op op_pow pe_int pe_int) pa_nil))) pa_nil)))) pa_nil)))))
      (pss_cons (ps_set (i := 8) sc_p_law.nd rfl (by first | exact Or.inl rfl | exact Or.inr rfl) (pe_lst (pa_cons (LmS.pe_keep (T := tabs a) (k := 40) TB rfl tabs_in tabs_uq (LamX.lamS_by (sc := defScope s_p_law) (by decide +kernel)) rfl (fun _ _ _ _ _ => rfl) (fun _ _ _ _ _ _ _ hr => (pe_call Gx_p_is_regime (hr.mono (by first | decide | omega)) (by rfl) T.g_p_is_regime T.F_p_is_regime.kp T.b_p_is_regime .nil (L2N.passes_call LmN.lam_takes (fun _ _ _ _ h => h)) (pa_cons (pv 4) (pa_cons (pv 6) (pa_cons (pv 5) (pa_cons (pv 7) pa_nil))))))) (pa_cons (LmS.pe_keepD (T := tabs a) (k := 40) TB rfl tabs_in tabs_uq (LmN.lamD_by (N := ["_law_script", "_law_rng", "_law_turn", "_law_rows_here", "_law_system", "_law_some", "_law_odd", "_law_low", "_law_asks", "_law_unknown", "_law_ask", "_law_name", "_law_term_here"]) (x := "_law_a") (sc := defScope s_p_law) (by decide +kernel)) rfl rfl pe_int (fun _ _ _ _ _ _ _ => ⟨_, rfl, fun _ => rfl⟩) (fun _ _ _ _ _ _ _ hr => (pe_call Gx_p_is_regime (hr.mono (by first | decide | omega)) (by rfl) T.g_p_is_regime T.F_p_is_regime.kp T.b_p_is_regime .nil (L2N.passes_call LmN.lam_takes (fun _ _ _ _ h => h)) (pa_cons (pv 4) (pa_cons (pv 5) (pa_cons (pv 6) (pa_cons (pv 7) pa_nil))))))) pa_nil))))
      (pss_cons (ps_expr (pe_bm PySem.F.plainAttrs_list PySem.F.slot_list_append PySem.F.type_list_append mt_append (pv 8) (pa_cons (LmS.pe_keep (T := tabs a) (k := 40) TB rfl tabs_in tabs_uq (LamX.lamS_by (sc := defScope s_p_law) (by decide +kernel)) rfl (fun _ _ _ _ _ => rfl) (fun _ _ _ _ _ _ _ hr => (pe_call Gx_p_is_regime (hr.mono (by first | decide | omega)) (by rfl) T.g_p_is_regime T.F_p_is_regime.kp T.b_p_is_regime .nil (L2N.passes_call LmN.lam_takes (fun _ _ _ _ h => h)) (pa_cons (pv 4) (pa_cons (pv 5) (pa_cons (pv 5) (pa_cons (pv 7) pa_nil))))))) pa_nil)))
      (pss_cons (ps_if (pt_not (pt_val (pe_call G_l_equal (hr.mono (by first | decide | omega)) (by rfl) T.g_l_equal T.F_l_equal.kp T.b_l_equal .nil pass0 (pa_cons (LmS.pe_lcI (own := [("_law_ask", 10)]) (g := gName 10) rfl sc_p_law.nd (pi_list (pv 8)) (blkOk_by (own := [("_law_ask", 10)]) (N := ["_law_script", "_law_rng", "_law_turn", "_law_rows_here", "_law_system", "_law_some", "_law_odd", "_law_low", "_law_asks", "_law_unknown", "_law_ask", "_law_name", "_law_term_here"]) (sc := defScope s_p_law) (by decide +kernel)) (fun _ _ _ _ _ => (pg_name (i := 10) sc_p_law.nd rfl (Or.inl rfl))) (fun _ _ _ _ _ _ _ I0 hfz => LmS.pe_errF (k := 40) I0 hfz (by rfl) T.g_l_error T.F_l_error T.b_l_error sc_l_error rfl (.inl rfl) (by rfl) T.g_l_outcome T.F_l_outcome T.b_l_outcome sc_l_outcome rfl (.inl rfl) (fun Y _ hK hM => givF2_l_outcome T hK hM (fun t => givF_l_outcome t)) (fun _ => hndF_l_error T) (hr.mono (by first | decide | omega)) (pv 10))) (pa_cons (pe_op op_cat (pe_op op_rep (pe_lst (pa_cons (pe_tup (pa_cons pe_str (pa_cons pe_non pa_nil))) pa_nil)) pe_int) (pe_lst (pa_cons (pe_tup (pa_cons pe_str (pa_cons (pv 7) pa_nil))) pa_nil))) pa_nil))))) (pss_one (ps_ret pe_bl)) pss_nil)
      (pss_cons (ps_set (i := 9) sc_p_law.nd rfl (by first | exact Or.inl rfl | exact Or.inr rfl) (pe_call G_l_unused_name (hr.mono (by first | decide | omega)) (by rfl) T.g_l_unused_name T.F_l_unused_name.kp T.b_l_unused_name .nil pass0 (pa_cons (pe_lc (own := [("_law_name", 11), ("_law_term_here", 12)]) (g := gTup K 2 (gCons (gName 11) (gCons (gName 12) gNil))) rfl sc_p_law.nd (pi_list (pv 3)) (blkOk_by (own := [("_law_name", 11), ("_law_term_here", 12)]) (N := ["_law_script", "_law_rng", "_law_turn", "_law_rows_here", "_law_system", "_law_some", "_law_odd", "_law_low", "_law_asks", "_law_unknown", "_law_ask", "_law_name", "_law_term_here"]) (sc := defScope s_p_law) (by decide +kernel)) (fun _ _ _ _ _ => (pg_tup rfl (pgs_cons (pg_name (i := 11) sc_p_law.nd rfl (Or.inl rfl)) (pgs_cons (pg_name (i := 12) sc_p_law.nd rfl (Or.inl rfl)) pgs_nil)))) (fun _ _ _ _ _ => pts_nil) (fun _ _ _ _ _ => (pv 11))) pa_nil)))
      (pss_one (ps_if (pt_not (pt_val (pe_call G_l_equal (hr.mono (by first | decide | omega)) (by rfl) T.g_l_equal T.F_l_equal.kp T.b_l_equal .nil pass0 (pa_cons (LmN.pe_lam2 (T := tabs a) (TT := TTe K a) (TT2 := TTo K a) (by rfl) T.g_l_error T.F_l_error T.b_l_error sc_l_error rfl (.inl rfl) (by rfl) T.g_l_outcome T.F_l_outcome T.b_l_outcome sc_l_outcome rfl (.inl rfl) (fun Y _ hK hM => giv2_l_outcome T hK hM (fun t => giv_l_outcome t)) (fun _ => hnd_l_error T) TB rfl tabs_in tabs_uq (hr.mono (by first | decide | omega)) (LamX.lamS_by (sc := defScope s_p_law) (by decide +kernel)) rfl (fun _ _ _ _ _ => rfl) (k := 40) (fun _ _ _ _ _ _ _ hr => (pe_call Gx_p_rate_of (hr.mono (by first | decide | omega)) (by rfl) T.g_p_rate_of T.F_p_rate_of.kp T.b_p_rate_of .nil (L2N.passes_call LmN.lam_takes (fun _ _ _ _ h => h)) (pa_cons (pv 4) (pa_cons (pv 9) pa_nil))))) (pa_cons (pe_tup (pa_cons pe_str (pa_cons (pv 9) pa_nil))) pa_nil))))) (pss_one (ps_ret pe_bl)) pss_nil)))))))))))
      (pss_one (ps_ret pe_bl)))), ?_⟩
  refine ⟨.ref b, rfl, b, ns, rfl, hS, hlen, fun H0 r s0 nr R0 => ?_⟩
  have T0 : LamX.Tabs (tabs a) H0 := fun p hp => LamX.TabS.nil (s0 _ _ (hT0 p hp))
  refine ⟨4, rfl, by decide, by decide, for_range (n := 4) (fun _ σ H' => ∃ y2 y3 y4 y5 y6 y7 y8 y9, σ = [some (.ref b), some (.ref r), y2, y3, y4, y5, y6, y7, y8, y9, none, none, none] ∧ Rg H' r ∧ LamX.Tabs (tabs a) H') ⟨none, none, none, none, none, none, none, none, rfl, R0, T0⟩ ?_ ?_⟩
  · rintro i σ H1 hi ⟨y2, y3, y4, y5, y6, y7, y8, y9, rfl, R1, T1⟩
    refine ⟨.ref r, rfl, r, 4, 2, rfl, R1, by decide, by decide, by decide, 2, by decide, by decide, by decide, fun l xs rs H2 k2 R2 lr hl hA r1 r4 _ dw wr => ?_⟩
    have r4 : rs.length ≤ 4 := r4
    have xl : xs.length = rs.length := hA.1
    have T2 := Tabs.kp T1 R1 k2
    refine ⟨.ref l, rfl, fun x dx nx ndx nex => ?_⟩
    have s8 : Same H2 (upd (upd H2 dx (.own x)) x (.ins a.C_EventSystem dx [])) := fun c o h => by rw [upd_ne (ne_of_none h nx), upd_ne (ne_of_none h ndx)]; exact h
    refine ⟨x, l, dx, a.C_EventSystem, xs, rs, 12, rfl, upd_same, T.cl_EventSystem, T.na_EventSystem_pairs, s8 _ _ hl, hA.mono (fun _ _ z => z.same s8), by decide, by omega, dw.vld.okNm, dw.vld.err r1 (by omega), fun plx zx H9 k9 npl hpl hA9 hx9 => ⟨rfl, ?_⟩⟩
    have s9 : Same H2 H9 := fun c o h => k9 c o (ne_of_none h nx) (s8 _ _ h)
    refine ⟨.ref r, rfl, .ref l, rfl, r, l, xs, rfl, R2.same s9, lr, s9 _ _ hl, by omega, fun B os q0 H10 k10 R10 Br nB hB hO ql => ?_⟩
    have C10 : C30 K a H10 r l x B xs os rs := ⟨R10, Tabs.kp (Tabs.same T2 s9) (R2.same s9) k10, lr, k10.1 _ _ lr (s9 _ _ hl), (hA.mono fun _ _ z => RowAt.same s9 z).mono fun _ _ z => z.kp (R2.same s9) k10, SysAt.kp ⟨dx, plx, zx, hx9, hpl, hA9⟩ (R2.same s9) k10, Br, hB⟩
    have ol : os.length = rs.length := by rw [hO.len, ql]; exact xl
    clear hl hA k2 R2 T2 R1 T1 s8 s9 k9 npl hpl hA9 hx9 nx ndx nex k10 R10 hB nB hO wr
    refine ⟨sz (by show 2 ≤ 100000; decide), fun tp ntp => ⟨tp, _, rfl, sqN ntp, rfl, _, _, rfl, _, _, rfl, rfl, ?_⟩⟩
    have C11 := C10.same (Same.new (o := .tup [.ref x, .ref B]) ntp)
    generalize upd H10 tp (.tup [.ref x, .ref B]) = H11 at C11
    clear C10 ntp
    refine ⟨.ref r, rfl, .ref B, rfl, 1, rfl, B, os, rfl, SqL.of C11.hB, fun c1 nc1 => ?_⟩
    have ec1 : cutV os (some 1) none = os.drop 1 := cutFromL os 1 (by omega)
    rw [ec1]
    have s1 := Same.new (o := .lst (os.drop 1)) nc1
    have C12 := C11.same s1
    have O1 : O30 K (upd H11 c1 (.lst (os.drop 1))) c1 r (os.drop 1) rs.length := ⟨C11.R.ne nc1, upd_same, by rw [List.length_drop]; omega⟩
    generalize upd H11 c1 (.lst (os.drop 1)) = H12 at s1 C12 O1
    refine ⟨.ref B, rfl, sz (by show 2 ≤ 100000; decide), fun t1 nt1 => ⟨sz (by show 1 ≤ 100000; decide), fun L1 nL1 => ?_⟩⟩
    have s2 := (Same.new (o := .tup [.int 0, .int 1]) nt1).trans (Same.new (o := .lst [.ref t1]) nL1)
    have C13 := C12.same s2
    have hL1 : (upd (upd H12 t1 (.tup [.int 0, .int 1])) L1 (.lst [.ref t1])) L1 = _ := upd_same
    generalize upd (upd H12 t1 (.tup [.int 0, .int 1])) L1 (.lst [.ref t1]) = H13 at s2 C13 hL1
    refine ⟨B, L1, os, [.ref t1], rfl, rfl, C13.hB, hL1, sz (by show os.length + 1 ≤ 100000; omega), fun P1 nP1 => ?_⟩
    have s3 := Same.new (o := .lst (os ++ [.ref t1])) nP1
    have C14 := C13.same s3
    have O2 : O30 K (upd H13 P1 (.lst (os ++ [.ref t1]))) P1 r (os ++ [.ref t1]) rs.length := ⟨C13.R.ne nP1, upd_same, by rw [List.length_append]; show os.length + 1 ≠ _; omega⟩
    generalize upd H13 P1 (.lst (os ++ [.ref t1])) = H14 at s3 C14 O2
    refine ⟨sz (by show 0 ≤ 100000; decide), fun E1 nE1 => ?_⟩
    have s4 := Same.new (o := .lst []) nE1
    have C15 := C14.same s4
    have O3 : O30 K (upd H14 E1 (.lst [])) E1 r [] rs.length := ⟨C14.R.ne nE1, upd_same, by show 0 ≠ _; omega⟩
    generalize upd H14 E1 (.lst []) = H15 at s4 C15 O3
    refine ⟨sz (by show 3 ≤ 100000; decide), fun G nG => ?_⟩
    have s5 := Same.new (o := .lst [.ref c1, .ref P1, .ref E1]) nG
    refine ⟨r, .ref G, _, rfl, C15.R.same s5, .inl ⟨G, rfl, C15.R.ne nG, .inl (SqL.of upd_same)⟩, by show 0 < 3; decide, by show 3 ≤ 100000; decide, fun o ho H16 k16 R16 => ?_⟩
    have C16 := (C15.same s5).kp k16 R16
    obtain ⟨O, zs, eo, O16⟩ : ∃ O zs, o = .ref O ∧ O30 K H16 O r zs rs.length := by
      rcases List.mem_cons.mp ho with rfl | ho
      · exact ⟨_, _, rfl, ((((O1.same s2).same s3).same s4).same s5).kp k16⟩
      · rcases List.mem_cons.mp ho with rfl | ho
        · exact ⟨_, _, rfl, ((O2.same s4).same s5).kp k16⟩
        · rw [List.mem_singleton.mp ho]
          exact ⟨_, _, rfl, (O3.same s5).kp k16⟩
    subst eo
    clear ho O1 O2 O3 C11 C12 C13 C14 C15 s1 s2 s3 s4 s5 nc1 nt1 nL1 hL1 nP1 nE1 nG k16 R16 ec1
    refine ⟨1, rfl, ?_⟩
    refine ⟨.ref r, rfl, .ref r, rfl, r, 9, rfl, C16.R, by decide, by decide, fun d1 H17 p1 _ k17 R17 => ?_⟩
    have C17 := C16.kp k17 R17
    refine ⟨.ref r, rfl, 10, 11, rfl, rfl, ?_⟩
    refine ⟨⟨by decide, by decide, by decide⟩, r, _, rfl, C17.R, by decide, by decide, fun d2 H18 p2 _ k18 R18 => ?_⟩
    have C18 := C17.kp k18 R18
    have O18 := (O16.kp k17).kp k18
    refine ⟨sz (by show 3 ≤ 100000; decide), fun G nG => ?_⟩
    have s1 := Same.new (o := .lst [.int 0, .int d1, .int d2]) nG
    refine ⟨r, .ref G, _, rfl, C18.R.same s1, .inl ⟨G, rfl, C18.R.ne nG, .inl (SqL.of upd_same)⟩, by show 0 < 3; decide, by show 3 ≤ 100000; decide, fun v hv H19 k19 R19 => ?_⟩
    have C19 := (C18.same s1).kp k19 R19
    have O19 := (O18.same s1).kp k19
    obtain ⟨j, ej, j0⟩ : ∃ j : Int, v = .int j ∧ 0 ≤ j := by
      rcases List.mem_cons.mp hv with rfl | hv
      · exact ⟨_, rfl, Int.le_refl _⟩
      · rcases List.mem_cons.mp hv with rfl | hv
        · exact ⟨_, rfl, p1⟩
        · rw [List.mem_singleton.mp hv]
          exact ⟨_, rfl, p2⟩
    subst ej
    clear hv s1 C16 C17 C18 O16 O18 k17 R17 k18 R18 nG k19 R19 p1 p2
    refine ⟨-1, j, rfl, rfl, ?_⟩
    have low : -1 - j < 0 := by omega
    refine ⟨C19.T, fun H20 f1 e1 T20 nf1 kf1 => ⟨T20, fun H21 f2 e2 T21 nf2 kf2 => ⟨sz (by show 2 ≤ 100000; decide), fun L nL => ?_⟩⟩⟩
    have sL := Same.new (o := .lst [.ref f1, .ref f2]) nL
    have hL22 : (upd H21 L (.lst [.ref f1, .ref f2])) L = _ := upd_same
    generalize upd H21 L (.lst [.ref f1, .ref f2]) = H22 at sL hL22
    refine ⟨.ref L, rfl, .inl ⟨rfl, _, SqL.of hL22⟩, Tabs.same T21 sL, fun H23 f3 e3 T23 nf3 kf3 => ?_⟩
    have hL23 := e3 _ _ hL22 (fun ps z => by cases z)
    refine ⟨L, [.ref f1, .ref f2], .ref f3, rfl, rfl, hL23, szl (by show 2 < 100000; decide), ?_⟩
    rw [show [V.ref f1, V.ref f2] ++ [V.ref f3] = [V.ref f1, V.ref f2, V.ref f3] from rfl]
    have e24 : LamX.ExtN H21 (upd H23 L (.lst [.ref f1, .ref f2, .ref f3])) := fun b o e n => by
      rw [upd_ne (ne_of_none e nL)]
      exact e3 _ _ (sL _ _ e) n
    have T24 : LamX.Tabs (tabs a) (upd H23 L (.lst [.ref f1, .ref f2, .ref f3])) := tabs_set T23 hL23
    have F24 := firm_set (zs := [.ref f1, .ref f2, .ref f3]) hL23
    have kf1 := (((kf1.mv (firm_ext e2)).mv (firm_same sL)).mv (firm_ext e3)).mv F24
    have kf2 := ((kf2.mv (firm_same sL)).mv (firm_ext e3)).mv F24
    have kf3 := kf3.mv F24
    have hL24 : (upd H23 L (.lst [.ref f1, .ref f2, .ref f3])) L = _ := upd_same
    have C24 := ((C19.ext e1 T20).ext e2 T21).ext e24 T24
    have O24 := ((O19.ext e1).ext e2).ext e24
    generalize upd H23 L (.lst [.ref f1, .ref f2, .ref f3]) = H24 at e24 T24 F24 kf1 kf2 kf3 hL24 C24 O24
    clear C19 O19 e1 T20 nf1 e2 T21 nf2 nL sL hL22 e3 T23 nf3 hL23 e24 F24
    refine ⟨.ref L, rfl, L, rfl, ⟨_, SqL.of hL24⟩, fun D nD => ?_⟩
    have tgE : ∃ tg : Nat → Str × V, tg 0 = (("InvalidTimes" : Str), V.non) ∧ tg 1 = (("InvalidTimes" : Str), V.non) ∧ tg 2 = (("InvalidRound" : Str), V.int (-1 - j)) := ⟨fun n => if n < 2 then (("InvalidTimes" : Str), V.non) else (("InvalidRound" : Str), V.int (-1 - j)), rfl, rfl, rfl⟩
    obtain ⟨tg, tg0, tg1, tg2⟩ := tgE
    refine lc_list (K := K) (a := L) (xs := [.ref f1, .ref f2, .ref f3]) (fun i H' => Same H24 H' ∧ ∃ es, H' D = some (.lst es) ∧ es.length = i ∧ ∀ n e, es[n]? = some e → ∃ p, e = .ref p ∧ SqT K H' p [.str (tg n).1, (tg n).2]) ⟨Same.new nD, [], upd_same, rfl, fun n e z => by cases z⟩ (fun i H' _ h => SqL.of (h.1 _ _ hL24)) ?_ ?_
    · rintro n y H' hy ⟨s', es, hD, el, hes⟩
      have n3 : n < 3 := (List.getElem?_eq_some_iff.mp hy).1
      have CH := C24.same s'
      have OH := O24.same s'
      have fin : ∀ (HZ : Hp) (c : Addr), Same H' HZ → SqT K HZ c [.str (tg n).1, (tg n).2] → ∃ acc, HZ D = some (.lst acc) ∧ acc.length < sizeLine ∧ Same H24 (upd HZ D (.lst (acc ++ [.ref c]))) ∧ ∃ es, (upd HZ D (.lst (acc ++ [.ref c]))) D = some (.lst es) ∧ es.length = n + 1 ∧ ∀ m e, es[m]? = some e → ∃ p, e = .ref p ∧ SqT K (upd HZ D (.lst (acc ++ [.ref c]))) p [.str (tg m).1, (tg m).2] := fun HZ c sz hc => by
        have hDZ := sz _ _ hD
        refine ⟨es, hDZ, szl (by omega), fun b o e => ?_, es ++ [.ref c], upd_same, by rw [List.length_append, el]; rfl, fun m e z => ?_⟩
        · rw [upd_ne (ne_of_none e nD)]; exact sz _ _ (s' _ _ e)
        · rcases Nat.lt_or_ge m es.length with lt | ge
          · rw [List.getElem?_append_left lt] at z
            obtain ⟨p, ep, hp⟩ := hes m e z
            exact ⟨p, ep, sqPut (Same.T sz hp) hDZ⟩
          · rw [List.getElem?_append_right ge] at z
            have m0 : m - es.length = 0 := by
              have := (List.getElem?_eq_some_iff.mp z).1
              simp at this
              omega
            rw [m0] at z
            cases z
            have em : m = n := by omega
            subst em
            exact ⟨c, rfl, sqPut hc hDZ⟩
      refine ⟨rfl, tYes_if ?_⟩
      have cs : (n = 0 ∧ y = .ref f1) ∨ (n = 1 ∧ y = .ref f2) ∨ (n = 2 ∧ y = .ref f3) := by
        match n, hy with
        | 0, hy => cases hy; exact .inl ⟨rfl, rfl⟩
        | 1, hy => cases hy; exact .inr (.inl ⟨rfl, rfl⟩)
        | 2, hy => cases hy; exact .inr (.inr ⟨rfl, rfl⟩)
      rcases cs with ⟨rfl, rfl⟩ | ⟨rfl, rfl⟩ | ⟨rfl, rfl⟩
      · refine ⟨.ref f1, rfl, f1, _, rfl, kf1.mv (firm_same s'), fun HF sF => ?_⟩
        have CF := CH.same sF
        have OF := OH.same sF
        refine ⟨.ref x, rfl, .ref O, rfl, .ref B, rfl, .int (-1 - j), rfl, ?_⟩
        refine ⟨x, O, B, zs, os, rs, -1 - j, rfl, CF.sy, SqL.of OF.hl, SqL.of CF.hB, by omega, .inl ⟨fun z => OF.ne z.1, fun dd H2 s2 ndd hdd => ?_⟩⟩
        refine ⟨a.C_InvalidTimes, dd, _, "InvalidTimes", rfl, rfl, hdd, rfl, T.xC_InvalidTimes, T.no_InvalidTimes_tag, .inl (.inr ⟨T.em_InvalidTimes_GaitError, (by decide +kernel : ("InvalidTimes" : Str) ∈ nfTab), fun p H3 s3 np hp => tte_q (SqT.of hp) fun c nc => ?_⟩)⟩
        exact fin _ c (sF.trans (s2.trans (s3.trans (Same.new nc)))) (by rw [tg0]; exact sqN nc)
      · refine ⟨.ref f2, rfl, f2, _, rfl, kf2.mv (firm_same s'), fun HF sF => ?_⟩
        have CF := CH.same sF
        have OF := OH.same sF
        refine ⟨.ref x, rfl, .ref B, rfl, .ref O, rfl, .int (-1 - j), rfl, ?_⟩
        refine ⟨x, B, O, os, zs, rs, -1 - j, rfl, CF.sy, SqL.of CF.hB, SqL.of OF.hl, by omega, .inl ⟨fun z => OF.ne z.2, fun dd H2 s2 ndd hdd => ?_⟩⟩
        refine ⟨a.C_InvalidTimes, dd, _, "InvalidTimes", rfl, rfl, hdd, rfl, T.xC_InvalidTimes, T.no_InvalidTimes_tag, .inl (.inr ⟨T.em_InvalidTimes_GaitError, (by decide +kernel : ("InvalidTimes" : Str) ∈ nfTab), fun p H3 s3 np hp => tte_q (SqT.of hp) fun c nc => ?_⟩)⟩
        exact fin _ c (sF.trans (s2.trans (s3.trans (Same.new nc)))) (by rw [tg1]; exact sqN nc)
      · refine ⟨.ref f3, rfl, f3, _, rfl, kf3.mv (firm_same s'), fun HF sF => ?_⟩
        have CF := CH.same sF
        refine ⟨.ref x, rfl, .ref B, rfl, .ref B, rfl, .int (-1 - j), rfl, ?_⟩
        refine ⟨x, B, B, os, os, rs, -1 - j, rfl, CF.sy, SqL.of CF.hB, SqL.of CF.hB, by omega, .inr ⟨ol, ol, low, fun dd H2 s2 ndd hdd => ?_⟩⟩
        refine ⟨a.C_InvalidRound, dd, _, "InvalidRound", rfl, rfl, hdd, rfl, T.xC_InvalidRound, T.no_InvalidRound_tag, .inr ⟨T.em_InvalidRound_GaitError, "number", .int (-1 - j), (by decide +kernel : (("InvalidRound" : Str), ("number" : Str)) ∈ efTab), rfl, T.no_InvalidRound_number, fun p H3 s3 np hp => tte_q (SqT.of hp) fun c nc => ?_⟩⟩
        exact fin _ c (sF.trans (s2.trans (s3.trans (Same.new nc)))) (by rw [tg2]; exact sqN nc)
    rintro H25 ⟨s25, es, hD, el, hes⟩
    have C25 := C24.same s25
    clear hL24 kf1 kf2 kf3 s25 C24 O24 nD T24
    refine ⟨sz (by show 2 ≤ 100000; decide), fun p1 np1 => ⟨sz (by show 1 ≤ 100000; decide), fun L1 nL1 => ?_⟩⟩
    have s1 := Same.new (o := .tup [.str "InvalidTimes", .non]) np1
    have hp1 : SqT K (upd H25 p1 (.tup [.str "InvalidTimes", .non])) p1 [.str "InvalidTimes", .non] := sqN np1
    generalize upd H25 p1 (.tup [.str "InvalidTimes", .non]) = H26 at s1 hp1 nL1 ⊢
    have s2 := Same.new (o := .lst [.ref p1]) nL1
    have hL1 : (upd H26 L1 (.lst [.ref p1])) L1 = _ := upd_same
    generalize upd H26 L1 (.lst [.ref p1]) = H27 at s2 hL1 ⊢
    refine ⟨L1, 2, [.ref p1], rfl, rfl, hL1, by decide, by decide, sz (by show 2 ≤ 100000; decide), fun L2 nL2 => ?_⟩
    rw [show (List.replicate (2 : Int).toNat [V.ref p1]).flatten = [V.ref p1, V.ref p1] from rfl]
    have s3 := Same.new (o := .lst [.ref p1, .ref p1]) nL2
    have hL2 : (upd H27 L2 (.lst [.ref p1, .ref p1])) L2 = _ := upd_same
    generalize upd H27 L2 (.lst [.ref p1, .ref p1]) = H28 at s3 hL2 ⊢
    refine ⟨.int (-1 - j), rfl, sz (by show 2 ≤ 100000; decide), fun p2 np2 => ⟨sz (by show 1 ≤ 100000; decide), fun L3 nL3 => ?_⟩⟩
    have s4 := Same.new (o := .tup [.str "InvalidRound", .int (-1 - j)]) np2
    have hp2 : SqT K (upd H28 p2 (.tup [.str "InvalidRound", .int (-1 - j)])) p2 [.str "InvalidRound", .int (-1 - j)] := sqN np2
    generalize upd H28 p2 (.tup [.str "InvalidRound", .int (-1 - j)]) = H29 at s4 hp2 nL3 ⊢
    have s5 := Same.new (o := .lst [.ref p2]) nL3
    have hL3 : (upd H29 L3 (.lst [.ref p2])) L3 = _ := upd_same
    generalize upd H29 L3 (.lst [.ref p2]) = H30 at s5 hL3 ⊢
    refine ⟨L2, L3, _, _, rfl, rfl, s5 _ _ (s4 _ _ hL2), hL3, sz (by show 3 ≤ 100000; decide), fun L4 nL4 => ?_⟩
    rw [show [V.ref p1, V.ref p1] ++ [V.ref p2] = [V.ref p1, V.ref p1, V.ref p2] from rfl]
    have s6 := Same.new (o := .lst [.ref p1, .ref p1, .ref p2]) nL4
    have s26 := s2.trans (s3.trans (s4.trans (s5.trans s6)))
    have sAll := s1.trans s26
    have hp1' := Same.T s26 hp1
    have hp2' := Same.T (s5.trans s6) hp2
    have eq3 : Eqd K (upd H30 L4 (.lst [.ref p1, .ref p1, .ref p2])) 30 (.ref D) (.ref L4) := by
      refine Eqd.mono (Eqd.lst (n := 1) (SqL.of (sAll _ _ hD)) (SqL.of upd_same) (by rw [el]; rfl) (by rw [el]; show 3 ≤ 100000; decide) fun m u v hu hv => ?_) (by decide)
      obtain ⟨p, eu, hp⟩ := hes m u hu
      subst eu
      have hpZ := Same.T sAll hp
      have m3 := (List.getElem?_eq_some_iff.mp hv).1
      match m, hv with
      | 0, hv => cases hv; rw [tg0] at hpZ; exact Eqd.tup2 hpZ hp1' (Eqd.atom rfl) (Eqd.atom rfl)
      | 1, hv => cases hv; rw [tg1] at hpZ; exact Eqd.tup2 hpZ hp1' (Eqd.atom rfl) (Eqd.atom rfl)
      | 2, hv => cases hv; rw [tg2] at hpZ; exact Eqd.tup2 hpZ hp2' (Eqd.atom rfl) (Eqd.atom rfl)
    refine ⟨.ref D, .ref L4, rfl, eq3, fun H31 s31 => ⟨true, rfl, ifF rfl ?_⟩⟩
    have C31 := C25.same (sAll.trans s31)
    clear C25 s1 s2 s3 s4 s5 s6 s26 sAll s31 hp1 hp2 hp1' hp2' eq3 np1 nL1 hL1 nL2 hL2 np2 nL3 hL3 nL4 hD el hes tg0 tg1 tg2
    refine ⟨.ref l, rfl, l, rfl, ⟨_, SqL.of C31.hl⟩, fun nl nnl => ?_⟩
    refine lc_list (K := K) (a := l) (xs := xs) (fun i H3 => Same H31 H3 ∧ H3 nl = some (.lst (((rs.take i).map Prod.fst).map V.str))) ⟨Same.new nnl, upd_same⟩ (fun i H3 _ h3 => SqL.of (h3.1 _ _ C31.hl)) ?_ ?_
    · rintro m y H3 hy ⟨s3, hk⟩
      obtain ⟨ro, hr', p, x', rfl, hp, hx'⟩ := C31.hA.at hy
      have tk : rs.take (m + 1) = rs.take m ++ [ro] := by rw [List.take_add_one, hr']; rfl
      have il := (List.getElem?_eq_some_iff.mp hy).1
      refine ⟨p, _, rfl, Same.T s3 hp, rfl, _, _, rfl, _, _, rfl, rfl, rfl, tYes_if ?_⟩
      refine ⟨.str ro.1, rfl, _, hk, by rw [List.length_map, List.length_map, List.length_take]; exact szl (by omega), fun b o e => ?_, ?_⟩
      · rw [upd_ne (ne_of_none e nnl)]; exact s3 _ _ e
      · rw [upd_same, tk, List.map_append, List.map_append]; rfl
    rintro H32 ⟨s32, hn⟩
    rw [xl, List.take_length] at hn
    refine ⟨nl, _, rfl, hn, by rw [List.length_map]; omega, fun u H33 s33 nu hu => ?_⟩
    have C33 := (C31.same s32).same s33
    clear hn s32 s33 nnl C31
    dsimp only
    refine both (te := LamX.tLam _ _ _) (fun o H' => ∃ p, o = .ref p ∧ LamX.ExtN H33 H' ∧ LamX.Tabs (tabs a) H' ∧ SqT K H' p [.str "UnknownEvent", .str u]) (fun o HG hG => ?_) (fun Q' hQ => ?_)
    rotate_left
    · refine ⟨C33.T, fun HD eD TD HF sF => ?_⟩
      have CF := (C33.ext eD TD).same sF
      refine ⟨.ref x, rfl, .str u, rfl, ?_⟩
      refine ⟨x, rs, u, rfl, CF.sy, nm_ok nu, rowT_none hu, fun dd H' s' ndd hdd => ?_⟩
      refine ⟨a.C_UnknownEvent, dd, _, "UnknownEvent", rfl, rfl, hdd, rfl, T.xC_UnknownEvent, T.no_UnknownEvent_tag, .inr ⟨T.em_UnknownEvent_GaitError, "name", .str u, (by decide +kernel : (("UnknownEvent" : Str), ("name" : Str)) ∈ efTab), rfl, T.no_UnknownEvent_name, fun p H2 s2 np hp => tte_q (SqT.of hp) fun c nc => hQ _ _ ?_⟩⟩
      have sG := s'.trans (s2.trans (Same.new (o := .tup [.str "UnknownEvent", .str u]) nc))
      exact ⟨c, rfl, (eD.trans (LamX.ExtN.of sF)).trans (LamX.ExtN.of sG), Tabs.same CF.T sG, sqN nc⟩
    obtain ⟨pG, rfl, eG, TG, hG⟩ := hG
    refine ⟨.str u, rfl, sz (by show 2 ≤ 100000; decide), fun q nq => ?_⟩
    have s21 := Same.new (o := .tup [.str "UnknownEvent", .str u]) nq
    refine ⟨.ref pG, .ref q, rfl, Eqd.mono (Eqd.tup (n := 0) (Same.T s21 hG) (sqN nq) rfl (by show 2 ≤ 100000; decide) (all2_cons (Eqd.atom rfl) (all2_cons (Eqd.atom rfl) all2_nil))) (by decide), fun HJ sJ => ⟨true, rfl, ifF rfl ?_⟩⟩
    have CJ := (C33.ext eG TG).same (s21.trans sJ)
    exact ⟨_, _, _, _, _, _, _, _, rfl, CJ.R, CJ.T⟩
  · rintro σ H1 ⟨y2, y3, y4, y5, y6, y7, y8, y9, rfl, R1, T1⟩
    exact w' H1
end
theorem all_mk {l : PySem.W.OpenLaw} {w : World} {K : PySem.W.Frag} {h : Heap} {mg : Str → Option Value} {fa : Addr} (X : K.In h) (G : h.Ns mainGlobals mg) (hfa : mg "law" = some (.ref fa))
    (OT : LamX.OwnTab K fa h)
    {od0 an0 : Option Addr} {sl0 : Array (Option Value)} {oc0 kV0 dc0 pm0 cd0 ct0 : Value} {f0 : Addr}
    {od1 an1 : Option Addr} {sl1 : Array (Option Value)} {oc1 kV1 dc1 pm1 cd1 ct1 : Value} {f1 : Addr}
    {od2 an2 : Option Addr} {sl2 : Array (Option Value)} {oc2 kV2 dc2 pm2 cd2 ct2 : Value} {f2 : Addr}
    {od3 an3 : Option Addr} {sl3 : Array (Option Value)} {oc3 kV3 dc3 pm3 cd3 ct3 : Value} {f3 : Addr}
    {od4 an4 : Option Addr} {sl4 : Array (Option Value)} {oc4 kV4 dc4 pm4 cd4 ct4 : Value} {f4 : Addr}
    {od5 an5 : Option Addr} {sl5 : Array (Option Value)} {oc5 kV5 dc5 pm5 cd5 ct5 : Value} {f5 : Addr}
    {od6 an6 : Option Addr} {sl6 : Array (Option Value)} {oc6 kV6 dc6 pm6 cd6 ct6 : Value} {f6 : Addr}
    {od7 an7 : Option Addr} {sl7 : Array (Option Value)} {oc7 kV7 dc7 pm7 cd7 ct7 : Value} {f7 : Addr}
    {od8 an8 : Option Addr} {sl8 : Array (Option Value)} {oc8 kV8 dc8 pm8 cd8 ct8 : Value} {f8 : Addr}
    {od9 an9 : Option Addr} {sl9 : Array (Option Value)} {oc9 kV9 dc9 pm9 cd9 ct9 : Value} {f9 : Addr}
    {od10 an10 : Option Addr} {sl10 : Array (Option Value)} {oc10 kV10 dc10 pm10 cd10 ct10 : Value} {f10 : Addr}
    {od11 an11 : Option Addr} {sl11 : Array (Option Value)} {oc11 kV11 dc11 pm11 cd11 ct11 : Value} {f11 : Addr}
    {od12 an12 : Option Addr} {sl12 : Array (Option Value)} {oc12 kV12 dc12 pm12 cd12 ct12 : Value} {f12 : Addr}
    {od13 an13 : Option Addr} {sl13 : Array (Option Value)} {oc13 kV13 dc13 pm13 cd13 ct13 : Value} {f13 : Addr}
    {od14 an14 : Option Addr} {sl14 : Array (Option Value)} {oc14 kV14 dc14 pm14 cd14 ct14 : Value} {f14 : Addr}
    {od15 an15 : Option Addr} {sl15 : Array (Option Value)} {oc15 kV15 dc15 pm15 cd15 ct15 : Value} {f15 : Addr}
    {od16 an16 : Option Addr} {sl16 : Array (Option Value)} {oc16 kV16 dc16 pm16 cd16 ct16 : Value} {f16 : Addr}
    {od17 an17 : Option Addr} {sl17 : Array (Option Value)} {oc17 kV17 dc17 pm17 cd17 ct17 : Value} {f17 : Addr}
    {od18 an18 : Option Addr} {sl18 : Array (Option Value)} {oc18 kV18 dc18 pm18 cd18 ct18 : Value} {f18 : Addr}
    {od19 an19 : Option Addr} {sl19 : Array (Option Value)} {oc19 dc19 pm19 cd19 ct19 : Value} {f19 : Addr}
    {od20 an20 : Option Addr} {sl20 : Array (Option Value)} {oc20 kV20 dc20 pm20 cd20 ct20 : Value} {f20 : Addr}
    {od21 an21 : Option Addr} {sl21 : Array (Option Value)} {oc21 kV21 dc21 pm21 cd21 ct21 : Value} {f21 : Addr}
    {od22 an22 : Option Addr} {sl22 : Array (Option Value)} {oc22 kV22 dc22 pm22 cd22 ct22 : Value} {f22 : Addr}
    {od23 an23 : Option Addr} {sl23 : Array (Option Value)} {oc23 kV23 dc23 pm23 cd23 ct23 : Value} {f23 : Addr}
    {od24 an24 : Option Addr} {sl24 : Array (Option Value)} {oc24 kV24 dc24 pm24 cd24 ct24 : Value} {f24 : Addr}
    {od25 an25 : Option Addr} {sl25 : Array (Option Value)} {oc25 kV25 dc25 pm25 cd25 ct25 : Value} {f25 : Addr}
    {od26 an26 : Option Addr} {sl26 : Array (Option Value)} {oc26 kV26 dc26 pm26 cd26 ct26 : Value} {f26 : Addr}
    {od27 an27 : Option Addr} {sl27 : Array (Option Value)} {oc27 kV27 dc27 pm27 cd27 ct27 : Value} {f27 : Addr}
    {od28 an28 : Option Addr} {sl28 : Array (Option Value)} {oc28 kV28 dc28 pm28 cd28 ct28 : Value} {f28 : Addr}
    {od29 an29 : Option Addr} {sl29 : Array (Option Value)} {oc29 kV29 dc29 pm29 cd29 ct29 : Value} {f29 : Addr}
    {od30 an30 : Option Addr} {sl30 : Array (Option Value)} {oc30 kV30 dc30 pm30 cd30 ct30 : Value} {f30 : Addr}
    {od31 an31 : Option Addr} {sl31 : Array (Option Value)} {oc31 kV31 dc31 pm31 cd31 ct31 : Value} {f31 : Addr}
    {od32 an32 : Option Addr} {sl32 : Array (Option Value)} {oc32 kV32 dc32 pm32 cd32 ct32 : Value} {f32 : Addr}
    {od33 an33 : Option Addr} {sl33 : Array (Option Value)} {oc33 kV33 dc33 pm33 cd33 ct33 : Value} {f33 : Addr}
    {od34 an34 : Option Addr} {sl34 : Array (Option Value)} {oc34 kV34 dc34 pm34 cd34 ct34 : Value} {f34 : Addr}
    {od35 an35 : Option Addr} {sl35 : Array (Option Value)} {oc35 kV35 dc35 pm35 cd35 ct35 : Value} {f35 : Addr}
    {od36 an36 : Option Addr} {sl36 : Array (Option Value)} {oc36 kV36 dc36 pm36 cd36 ct36 : Value} {f36 : Addr}
    {od37 an37 : Option Addr} {sl37 : Array (Option Value)} {oc37 kV37 dc37 pm37 cd37 ct37 : Value} {f37 : Addr}
    {od38 an38 : Option Addr} {sl38 : Array (Option Value)} {oc38 kV38 dc38 pm38 cd38 ct38 : Value} {f38 : Addr}
    {od39 an39 : Option Addr} {sl39 : Array (Option Value)} {oc39 kV39 dc39 pm39 cd39 ct39 : Value} {f39 : Addr}
    {od40 an40 : Option Addr} {sl40 : Array (Option Value)} {oc40 kV40 dc40 pm40 cd40 ct40 : Value} {f40 : Addr}
    {od41 an41 : Option Addr} {sl41 : Array (Option Value)} {oc41 kV41 dc41 pm41 cd41 ct41 : Value} {f41 : Addr}
    {od42 an42 : Option Addr} {sl42 : Array (Option Value)} {oc42 kV42 dc42 pm42 cd42 ct42 : Value} {f42 : Addr}
    {od43 an43 : Option Addr} {sl43 : Array (Option Value)} {oc43 kV43 dc43 pm43 cd43 ct43 : Value} {f43 : Addr}
    {od44 an44 : Option Addr} {sl44 : Array (Option Value)} {oc44 kV44 dc44 pm44 cd44 ct44 : Value} {f44 : Addr}
    {od45 an45 : Option Addr} {sl45 : Array (Option Value)} {oc45 kV45 dc45 pm45 cd45 ct45 : Value} {f45 : Addr}
    {od46 an46 : Option Addr} {sl46 : Array (Option Value)} {oc46 kV46 dc46 pm46 cd46 ct46 : Value} {f46 : Addr}
    {od47 an47 : Option Addr} {sl47 : Array (Option Value)} {oc47 kV47 dc47 pm47 cd47 ct47 : Value} {f47 : Addr}
    {od48 an48 : Option Addr} {sl48 : Array (Option Value)} {oc48 kV48 dc48 pm48 cd48 ct48 : Value} {f48 : Addr}
    {od49 an49 : Option Addr} {sl49 : Array (Option Value)} {oc49 kV49 dc49 pm49 cd49 ct49 : Value} {f49 : Addr}
    {od50 an50 : Option Addr} {sl50 : Array (Option Value)} {oc50 kV50 dc50 pm50 cd50 ct50 : Value} {f50 : Addr}
    {od51 an51 : Option Addr} {sl51 : Array (Option Value)} {oc51 kV51 dc51 pm51 cd51 ct51 : Value} {f51 : Addr}
    {od52 an52 : Option Addr} {sl52 : Array (Option Value)} {oc52 kV52 dc52 pm52 cd52 ct52 : Value} {f52 : Addr}
    {od53 an53 : Option Addr} {sl53 : Array (Option Value)} {oc53 kV53 dc53 pm53 cd53 ct53 : Value} {f53 : Addr}
    {od54 an54 : Option Addr} {sl54 : Array (Option Value)} {oc54 kV54 dc54 pm54 cd54 ct54 : Value} {f54 : Addr}
    {od55 an55 : Option Addr} {sl55 : Array (Option Value)} {oc55 kV55 dc55 pm55 cd55 ct55 : Value} {f55 : Addr}
    {od56 an56 : Option Addr} {sl56 : Array (Option Value)} {oc56 kV56 dc56 pm56 cd56 ct56 : Value} {f56 : Addr}
    {od57 an57 : Option Addr} {sl57 : Array (Option Value)} {oc57 kV57 dc57 pm57 cd57 ct57 : Value} {f57 : Addr}
    {od58 an58 : Option Addr} {sl58 : Array (Option Value)} {oc58 kV58 dc58 pm58 cd58 ct58 : Value} {f58 : Addr}
    {od59 an59 : Option Addr} {sl59 : Array (Option Value)} {oc59 kV59 dc59 pm59 cd59 ct59 : Value} {f59 : Addr}
    {od60 an60 : Option Addr} {sl60 : Array (Option Value)} {oc60 kV60 dc60 pm60 cd60 ct60 : Value} {f60 : Addr}
    {od61 an61 : Option Addr} {sl61 : Array (Option Value)} {oc61 kV61 dc61 pm61 cd61 ct61 : Value} {f61 : Addr}
    {od62 an62 : Option Addr} {sl62 : Array (Option Value)} {oc62 kV62 dc62 pm62 cd62 ct62 : Value} {f62 : Addr}
    {od63 an63 : Option Addr} {sl63 : Array (Option Value)} {oc63 kV63 dc63 pm63 cd63 ct63 : Value} {f63 : Addr}
    {od64 an64 : Option Addr} {sl64 : Array (Option Value)} {oc64 kV64 dc64 pm64 cd64 ct64 : Value} {f64 : Addr}
    {od65 an65 : Option Addr} {sl65 : Array (Option Value)} {oc65 kV65 dc65 pm65 ct65 : Value} {f65 : Addr}
    {C_EventSystem : Addr}
    {cL tL : Addr} {odc : Option Addr} {vsc : Array Value} {slc : Array (Option Value)} {fl : Str} {fg tx : Int} {inF : Bool} {tfl tg tt : Tok}
    {C_GaitError C_NotFound C_ZeroDenominator C_EmptyHistory C_UnknownEvent C_InvalidTimes C_InvalidRound C_InvalidName C_DuplicateName C_InvalidTerm C_InvalidCount : Addr}
    {dT0 : Addr} {do0 : Option Addr} {dn0 : Nat} {ds0 : Array (Option Value)} {dt0_0 dt0_1 : Tok}
    {dT1 : Addr} {do1 : Option Addr} {dn1 : Nat} {ds1 : Array (Option Value)} {dt1_0 dt1_1 : Tok}
    {dT13 : Addr} {do13 : Option Addr} {dn13 : Nat} {ds13 : Array (Option Value)} {dt13_0 : Tok}
    {kD19 : Addr}
    {o_ZERO : Addr} {od_ZERO : Option Addr} {on_ZERO : Nat} {os_ZERO : Array (Option Value)} {tk_ZERO_0 tk_ZERO_1 : Tok}
    {o_KEYWORDS : Addr} {od_KEYWORDS : Option Addr} {on_KEYWORDS : Nat} {os_KEYWORDS : Array (Option Value)} {tk_KEYWORDS_0 tk_KEYWORDS_1 tk_KEYWORDS_2 tk_KEYWORDS_3 : Tok}
    {tk_MAX_NAME : Tok}
    {tk_MAX_SIDE : Tok}
    {tk_MAX_OPERANDS : Tok}
    {tk_MAX_SIZE : Tok}
    {tk_MAX_DEPTH : Tok}
    {tk_MAX_EVENTS : Tok}
    (gc_EventSystem : PySem.W.nsIn K mainGlobals "EventSystem" = some (some (.ref C_EventSystem)))
    (op_EventSystem : PySem.W.plainGet K C_EventSystem Str.empty = true)
    (oh_EventSystem : PySem.W.hasDictIn K C_EventSystem = true)
    (oo_EventSystem : PySem.W.plainOver K C_EventSystem = true)
    (os_EventSystem : PySem.W.findIn K (.ref C_EventSystem) "__setattr__" = some (some (.builtin "object.__setattr__")))
    (om_EventSystem : PySem.W.makesIn K C_EventSystem = true)
    (ok_EventSystem : PySem.W.keepIn K (.ref C_EventSystem) = true)
    (na_EventSystem_pairs : PySem.W.findIn K (.ref C_EventSystem) "pairs" = some none)
    (gc_GaitError : PySem.W.nsIn K mainGlobals "GaitError" = some (some (.ref C_GaitError)))
    (gc_NotFound : PySem.W.nsIn K mainGlobals "NotFound" = some (some (.ref C_NotFound)))
    (gc_ZeroDenominator : PySem.W.nsIn K mainGlobals "ZeroDenominator" = some (some (.ref C_ZeroDenominator)))
    (gc_EmptyHistory : PySem.W.nsIn K mainGlobals "EmptyHistory" = some (some (.ref C_EmptyHistory)))
    (gc_UnknownEvent : PySem.W.nsIn K mainGlobals "UnknownEvent" = some (some (.ref C_UnknownEvent)))
    (gc_InvalidTimes : PySem.W.nsIn K mainGlobals "InvalidTimes" = some (some (.ref C_InvalidTimes)))
    (gc_InvalidRound : PySem.W.nsIn K mainGlobals "InvalidRound" = some (some (.ref C_InvalidRound)))
    (gc_InvalidName : PySem.W.nsIn K mainGlobals "InvalidName" = some (some (.ref C_InvalidName)))
    (gc_DuplicateName : PySem.W.nsIn K mainGlobals "DuplicateName" = some (some (.ref C_DuplicateName)))
    (gc_InvalidTerm : PySem.W.nsIn K mainGlobals "InvalidTerm" = some (some (.ref C_InvalidTerm)))
    (gc_InvalidCount : PySem.W.nsIn K mainGlobals "InvalidCount" = some (some (.ref C_InvalidCount)))
    (x1_ZeroDenominator : PySem.W.excInitIn K C_ZeroDenominator [.type "ZeroDivisionError", .type "ArithmeticError", .type "Exception", .type "BaseException", .type "object"] "ZeroDivisionError.__new__" = true)
    (x2_ZeroDenominator : PySem.W.excOver K C_ZeroDenominator [.type "ZeroDivisionError", .type "ArithmeticError", .type "Exception", .type "BaseException", .type "object"] = true)
    (x3_ZeroDenominator : PySem.W.hasDictIn K C_ZeroDenominator = true)
    (x4_ZeroDenominator : PySem.W.findIn K (.ref C_ZeroDenominator) "__setattr__" = some (some (.builtin "object.__setattr__")))
    (x5_ZeroDenominator : PySem.W.subIn K (.ref C_ZeroDenominator) (.type "BaseException") = some true)
    (x6_ZeroDenominator : PySem.W.typeIn K (.ref C_ZeroDenominator) = some (.type "type"))
    (x7_ZeroDenominator : PySem.W.keepIn K (.ref C_ZeroDenominator) = true)
    (x8_ZeroDenominator : PySem.W.findIn K (.ref C_ZeroDenominator) "__getattribute__" = some (some (.builtin "BaseException.__getattribute__")))
    (x9_ZeroDenominator : PySem.W.findIn K (.ref C_ZeroDenominator) "__getattr__" = some none)
    (no_ZeroDenominator_tag : PySem.W.findIn K (.ref C_ZeroDenominator) "tag" = some none)
    (s_ZeroDenominator_GaitError : PySem.W.subIn K (.ref C_ZeroDenominator) (.ref C_GaitError) = some false)
    (s_ZeroDenominator_NotFound : PySem.W.subIn K (.ref C_ZeroDenominator) (.ref C_NotFound) = some false)
    (s_ZeroDenominator_ZeroDenominator : PySem.W.subIn K (.ref C_ZeroDenominator) (.ref C_ZeroDenominator) = some true)
    (s_ZeroDenominator_EmptyHistory : PySem.W.subIn K (.ref C_ZeroDenominator) (.ref C_EmptyHistory) = some false)
    (x1_UnknownEvent : PySem.W.excInitIn K C_UnknownEvent [.type "LookupError", .type "Exception", .type "BaseException", .type "object"] "LookupError.__new__" = true)
    (x2_UnknownEvent : PySem.W.excOver K C_UnknownEvent [.type "LookupError", .type "Exception", .type "BaseException", .type "object"] = true)
    (x3_UnknownEvent : PySem.W.hasDictIn K C_UnknownEvent = true)
    (x4_UnknownEvent : PySem.W.findIn K (.ref C_UnknownEvent) "__setattr__" = some (some (.builtin "object.__setattr__")))
    (x5_UnknownEvent : PySem.W.subIn K (.ref C_UnknownEvent) (.type "BaseException") = some true)
    (x6_UnknownEvent : PySem.W.typeIn K (.ref C_UnknownEvent) = some (.type "type"))
    (x7_UnknownEvent : PySem.W.keepIn K (.ref C_UnknownEvent) = true)
    (x8_UnknownEvent : PySem.W.findIn K (.ref C_UnknownEvent) "__getattribute__" = some (some (.builtin "BaseException.__getattribute__")))
    (x9_UnknownEvent : PySem.W.findIn K (.ref C_UnknownEvent) "__getattr__" = some none)
    (no_UnknownEvent_tag : PySem.W.findIn K (.ref C_UnknownEvent) "tag" = some none)
    (no_UnknownEvent_name : PySem.W.findIn K (.ref C_UnknownEvent) "name" = some none)
    (s_UnknownEvent_GaitError : PySem.W.subIn K (.ref C_UnknownEvent) (.ref C_GaitError) = some false)
    (s_UnknownEvent_NotFound : PySem.W.subIn K (.ref C_UnknownEvent) (.ref C_NotFound) = some true)
    (s_UnknownEvent_ZeroDenominator : PySem.W.subIn K (.ref C_UnknownEvent) (.ref C_ZeroDenominator) = some false)
    (s_UnknownEvent_EmptyHistory : PySem.W.subIn K (.ref C_UnknownEvent) (.ref C_EmptyHistory) = some false)
    (x1_InvalidTimes : PySem.W.excInitIn K C_InvalidTimes [.type "ValueError", .type "Exception", .type "BaseException", .type "object"] "ValueError.__new__" = true)
    (x2_InvalidTimes : PySem.W.excOver K C_InvalidTimes [.type "ValueError", .type "Exception", .type "BaseException", .type "object"] = true)
    (x3_InvalidTimes : PySem.W.hasDictIn K C_InvalidTimes = true)
    (x4_InvalidTimes : PySem.W.findIn K (.ref C_InvalidTimes) "__setattr__" = some (some (.builtin "object.__setattr__")))
    (x5_InvalidTimes : PySem.W.subIn K (.ref C_InvalidTimes) (.type "BaseException") = some true)
    (x6_InvalidTimes : PySem.W.typeIn K (.ref C_InvalidTimes) = some (.type "type"))
    (x7_InvalidTimes : PySem.W.keepIn K (.ref C_InvalidTimes) = true)
    (x8_InvalidTimes : PySem.W.findIn K (.ref C_InvalidTimes) "__getattribute__" = some (some (.builtin "BaseException.__getattribute__")))
    (x9_InvalidTimes : PySem.W.findIn K (.ref C_InvalidTimes) "__getattr__" = some none)
    (no_InvalidTimes_tag : PySem.W.findIn K (.ref C_InvalidTimes) "tag" = some none)
    (s_InvalidTimes_GaitError : PySem.W.subIn K (.ref C_InvalidTimes) (.ref C_GaitError) = some true)
    (s_InvalidTimes_NotFound : PySem.W.subIn K (.ref C_InvalidTimes) (.ref C_NotFound) = some false)
    (s_InvalidTimes_ZeroDenominator : PySem.W.subIn K (.ref C_InvalidTimes) (.ref C_ZeroDenominator) = some false)
    (s_InvalidTimes_EmptyHistory : PySem.W.subIn K (.ref C_InvalidTimes) (.ref C_EmptyHistory) = some false)
    (x1_InvalidRound : PySem.W.excInitIn K C_InvalidRound [.type "ValueError", .type "Exception", .type "BaseException", .type "object"] "ValueError.__new__" = true)
    (x2_InvalidRound : PySem.W.excOver K C_InvalidRound [.type "ValueError", .type "Exception", .type "BaseException", .type "object"] = true)
    (x3_InvalidRound : PySem.W.hasDictIn K C_InvalidRound = true)
    (x4_InvalidRound : PySem.W.findIn K (.ref C_InvalidRound) "__setattr__" = some (some (.builtin "object.__setattr__")))
    (x5_InvalidRound : PySem.W.subIn K (.ref C_InvalidRound) (.type "BaseException") = some true)
    (x6_InvalidRound : PySem.W.typeIn K (.ref C_InvalidRound) = some (.type "type"))
    (x7_InvalidRound : PySem.W.keepIn K (.ref C_InvalidRound) = true)
    (x8_InvalidRound : PySem.W.findIn K (.ref C_InvalidRound) "__getattribute__" = some (some (.builtin "BaseException.__getattribute__")))
    (x9_InvalidRound : PySem.W.findIn K (.ref C_InvalidRound) "__getattr__" = some none)
    (no_InvalidRound_tag : PySem.W.findIn K (.ref C_InvalidRound) "tag" = some none)
    (no_InvalidRound_number : PySem.W.findIn K (.ref C_InvalidRound) "number" = some none)
    (s_InvalidRound_GaitError : PySem.W.subIn K (.ref C_InvalidRound) (.ref C_GaitError) = some true)
    (s_InvalidRound_NotFound : PySem.W.subIn K (.ref C_InvalidRound) (.ref C_NotFound) = some false)
    (s_InvalidRound_ZeroDenominator : PySem.W.subIn K (.ref C_InvalidRound) (.ref C_ZeroDenominator) = some false)
    (s_InvalidRound_EmptyHistory : PySem.W.subIn K (.ref C_InvalidRound) (.ref C_EmptyHistory) = some false)
    (x1_InvalidName : PySem.W.excInitIn K C_InvalidName [.type "ValueError", .type "Exception", .type "BaseException", .type "object"] "ValueError.__new__" = true)
    (x2_InvalidName : PySem.W.excOver K C_InvalidName [.type "ValueError", .type "Exception", .type "BaseException", .type "object"] = true)
    (x3_InvalidName : PySem.W.hasDictIn K C_InvalidName = true)
    (x4_InvalidName : PySem.W.findIn K (.ref C_InvalidName) "__setattr__" = some (some (.builtin "object.__setattr__")))
    (x5_InvalidName : PySem.W.subIn K (.ref C_InvalidName) (.type "BaseException") = some true)
    (x6_InvalidName : PySem.W.typeIn K (.ref C_InvalidName) = some (.type "type"))
    (x7_InvalidName : PySem.W.keepIn K (.ref C_InvalidName) = true)
    (x8_InvalidName : PySem.W.findIn K (.ref C_InvalidName) "__getattribute__" = some (some (.builtin "BaseException.__getattribute__")))
    (x9_InvalidName : PySem.W.findIn K (.ref C_InvalidName) "__getattr__" = some none)
    (no_InvalidName_tag : PySem.W.findIn K (.ref C_InvalidName) "tag" = some none)
    (no_InvalidName_name : PySem.W.findIn K (.ref C_InvalidName) "name" = some none)
    (s_InvalidName_GaitError : PySem.W.subIn K (.ref C_InvalidName) (.ref C_GaitError) = some true)
    (s_InvalidName_NotFound : PySem.W.subIn K (.ref C_InvalidName) (.ref C_NotFound) = some false)
    (s_InvalidName_ZeroDenominator : PySem.W.subIn K (.ref C_InvalidName) (.ref C_ZeroDenominator) = some false)
    (s_InvalidName_EmptyHistory : PySem.W.subIn K (.ref C_InvalidName) (.ref C_EmptyHistory) = some false)
    (x1_DuplicateName : PySem.W.excInitIn K C_DuplicateName [.type "ValueError", .type "Exception", .type "BaseException", .type "object"] "ValueError.__new__" = true)
    (x2_DuplicateName : PySem.W.excOver K C_DuplicateName [.type "ValueError", .type "Exception", .type "BaseException", .type "object"] = true)
    (x3_DuplicateName : PySem.W.hasDictIn K C_DuplicateName = true)
    (x4_DuplicateName : PySem.W.findIn K (.ref C_DuplicateName) "__setattr__" = some (some (.builtin "object.__setattr__")))
    (x5_DuplicateName : PySem.W.subIn K (.ref C_DuplicateName) (.type "BaseException") = some true)
    (x6_DuplicateName : PySem.W.typeIn K (.ref C_DuplicateName) = some (.type "type"))
    (x7_DuplicateName : PySem.W.keepIn K (.ref C_DuplicateName) = true)
    (x8_DuplicateName : PySem.W.findIn K (.ref C_DuplicateName) "__getattribute__" = some (some (.builtin "BaseException.__getattribute__")))
    (x9_DuplicateName : PySem.W.findIn K (.ref C_DuplicateName) "__getattr__" = some none)
    (no_DuplicateName_tag : PySem.W.findIn K (.ref C_DuplicateName) "tag" = some none)
    (no_DuplicateName_name : PySem.W.findIn K (.ref C_DuplicateName) "name" = some none)
    (s_DuplicateName_GaitError : PySem.W.subIn K (.ref C_DuplicateName) (.ref C_GaitError) = some true)
    (s_DuplicateName_NotFound : PySem.W.subIn K (.ref C_DuplicateName) (.ref C_NotFound) = some false)
    (s_DuplicateName_ZeroDenominator : PySem.W.subIn K (.ref C_DuplicateName) (.ref C_ZeroDenominator) = some false)
    (s_DuplicateName_EmptyHistory : PySem.W.subIn K (.ref C_DuplicateName) (.ref C_EmptyHistory) = some false)
    (x1_InvalidTerm : PySem.W.excInitIn K C_InvalidTerm [.type "ValueError", .type "Exception", .type "BaseException", .type "object"] "ValueError.__new__" = true)
    (x2_InvalidTerm : PySem.W.excOver K C_InvalidTerm [.type "ValueError", .type "Exception", .type "BaseException", .type "object"] = true)
    (x3_InvalidTerm : PySem.W.hasDictIn K C_InvalidTerm = true)
    (x4_InvalidTerm : PySem.W.findIn K (.ref C_InvalidTerm) "__setattr__" = some (some (.builtin "object.__setattr__")))
    (x5_InvalidTerm : PySem.W.subIn K (.ref C_InvalidTerm) (.type "BaseException") = some true)
    (x6_InvalidTerm : PySem.W.typeIn K (.ref C_InvalidTerm) = some (.type "type"))
    (x7_InvalidTerm : PySem.W.keepIn K (.ref C_InvalidTerm) = true)
    (x8_InvalidTerm : PySem.W.findIn K (.ref C_InvalidTerm) "__getattribute__" = some (some (.builtin "BaseException.__getattribute__")))
    (x9_InvalidTerm : PySem.W.findIn K (.ref C_InvalidTerm) "__getattr__" = some none)
    (no_InvalidTerm_tag : PySem.W.findIn K (.ref C_InvalidTerm) "tag" = some none)
    (no_InvalidTerm_name : PySem.W.findIn K (.ref C_InvalidTerm) "name" = some none)
    (s_InvalidTerm_GaitError : PySem.W.subIn K (.ref C_InvalidTerm) (.ref C_GaitError) = some true)
    (s_InvalidTerm_NotFound : PySem.W.subIn K (.ref C_InvalidTerm) (.ref C_NotFound) = some false)
    (s_InvalidTerm_ZeroDenominator : PySem.W.subIn K (.ref C_InvalidTerm) (.ref C_ZeroDenominator) = some false)
    (s_InvalidTerm_EmptyHistory : PySem.W.subIn K (.ref C_InvalidTerm) (.ref C_EmptyHistory) = some false)
    (x1_InvalidCount : PySem.W.excInitIn K C_InvalidCount [.type "ValueError", .type "Exception", .type "BaseException", .type "object"] "ValueError.__new__" = true)
    (x2_InvalidCount : PySem.W.excOver K C_InvalidCount [.type "ValueError", .type "Exception", .type "BaseException", .type "object"] = true)
    (x3_InvalidCount : PySem.W.hasDictIn K C_InvalidCount = true)
    (x4_InvalidCount : PySem.W.findIn K (.ref C_InvalidCount) "__setattr__" = some (some (.builtin "object.__setattr__")))
    (x5_InvalidCount : PySem.W.subIn K (.ref C_InvalidCount) (.type "BaseException") = some true)
    (x6_InvalidCount : PySem.W.typeIn K (.ref C_InvalidCount) = some (.type "type"))
    (x7_InvalidCount : PySem.W.keepIn K (.ref C_InvalidCount) = true)
    (x8_InvalidCount : PySem.W.findIn K (.ref C_InvalidCount) "__getattribute__" = some (some (.builtin "BaseException.__getattribute__")))
    (x9_InvalidCount : PySem.W.findIn K (.ref C_InvalidCount) "__getattr__" = some none)
    (no_InvalidCount_tag : PySem.W.findIn K (.ref C_InvalidCount) "tag" = some none)
    (no_InvalidCount_quantity : PySem.W.findIn K (.ref C_InvalidCount) "quantity" = some none)
    (s_InvalidCount_GaitError : PySem.W.subIn K (.ref C_InvalidCount) (.ref C_GaitError) = some true)
    (s_InvalidCount_NotFound : PySem.W.subIn K (.ref C_InvalidCount) (.ref C_NotFound) = some false)
    (s_InvalidCount_ZeroDenominator : PySem.W.subIn K (.ref C_InvalidCount) (.ref C_ZeroDenominator) = some false)
    (s_InvalidCount_EmptyHistory : PySem.W.subIn K (.ref C_InvalidCount) (.ref C_EmptyHistory) = some false)
    (y1_GaitError : PySem.W.subIn K (.ref C_GaitError) (.type "BaseException") = some true)
    (y2_GaitError : PySem.W.hasDictIn K C_GaitError = true)
    (y3_GaitError : PySem.W.typeIn K (.ref C_GaitError) = some (.type "type"))
    (y1_NotFound : PySem.W.subIn K (.ref C_NotFound) (.type "BaseException") = some true)
    (y2_NotFound : PySem.W.hasDictIn K C_NotFound = true)
    (y3_NotFound : PySem.W.typeIn K (.ref C_NotFound) = some (.type "type"))
    (y1_ZeroDenominator : PySem.W.subIn K (.ref C_ZeroDenominator) (.type "BaseException") = some true)
    (y2_ZeroDenominator : PySem.W.hasDictIn K C_ZeroDenominator = true)
    (y3_ZeroDenominator : PySem.W.typeIn K (.ref C_ZeroDenominator) = some (.type "type"))
    (y1_EmptyHistory : PySem.W.subIn K (.ref C_EmptyHistory) (.type "BaseException") = some true)
    (y2_EmptyHistory : PySem.W.hasDictIn K C_EmptyHistory = true)
    (y3_EmptyHistory : PySem.W.typeIn K (.ref C_EmptyHistory) = some (.type "type"))
    (rd_GaitError : PySem.W.readsIn K C_GaitError (.type "type") = true)
    (sg_GaitError : PySem.W.specialIn K (.ref C_GaitError) "__getattribute__" = some (some (.builtin "type.__getattribute__")))
    (rd_NotFound : PySem.W.readsIn K C_NotFound (.type "type") = true)
    (sg_NotFound : PySem.W.specialIn K (.ref C_NotFound) "__getattribute__" = some (some (.builtin "type.__getattribute__")))
    (vV_LookupError : PySem.W.findCls K (.type "LookupError") (.type "type") "__init__" = some (.val (.builtin "LookupError.__init__")))
    (vV_ValueError : PySem.W.findCls K (.type "ValueError") (.type "type") "__init__" = some (.val (.builtin "ValueError.__init__")))
    (vV_ZeroDivisionError : PySem.W.findCls K (.type "ZeroDivisionError") (.type "type") "__init__" = some (.val (.builtin "ZeroDivisionError.__init__")))
    (a0 : PySem.W.findIn K (.ref C_GaitError) "__init__" = some (some (.ref f0)))
    (l0 : K.lookup f0 = some ⟨oc0, od0, .func (PySem.W.fnOf "__init__" "GaitError.__init__" (defArgs s_i_GaitError) (defBody s_i_GaitError) (defScope s_i_GaitError) (.ref dT0) kV0 dc0 pm0 an0 cd0 ct0), sl0⟩) (c0 : PySem.W.codeIn K cd0 "GaitError.__init__" = true) (k0 : PySem.W.keepIn K (.ref f0) = true)
    (t0 : PySem.W.typeIn K (.ref f0) = some (.type "function"))
    (fc0 : PySem.W.findCls K (.ref C_GaitError) (.type "type") "__init__" = some (.val (.ref f0)))
    (d0 : K.lookup dT0 = some ⟨.type "tuple", do0, .seq #[.str "GaitError" dt0_0, .str "" dt0_1] dn0, ds0⟩)
    (a1 : PySem.W.findIn K (.ref C_NotFound) "__init__" = some (some (.ref f1)))
    (l1 : K.lookup f1 = some ⟨oc1, od1, .func (PySem.W.fnOf "__init__" "NotFound.__init__" (defArgs s_i_NotFound) (defBody s_i_NotFound) (defScope s_i_NotFound) (.ref dT1) kV1 dc1 pm1 an1 cd1 ct1), sl1⟩) (c1 : PySem.W.codeIn K cd1 "NotFound.__init__" = true) (k1 : PySem.W.keepIn K (.ref f1) = true)
    (t1 : PySem.W.typeIn K (.ref f1) = some (.type "function"))
    (fc1 : PySem.W.findCls K (.ref C_NotFound) (.type "type") "__init__" = some (.val (.ref f1)))
    (d1 : K.lookup dT1 = some ⟨.type "tuple", do1, .seq #[.str "NotFound" dt1_0, .str "" dt1_1] dn1, ds1⟩)
    (a2 : PySem.W.findIn K (.ref C_InvalidTerm) "__init__" = some (some (.ref f2)))
    (l2 : K.lookup f2 = some ⟨oc2, od2, .func (PySem.W.fnOf "__init__" "InvalidTerm.__init__" (defArgs s_i_InvalidTerm) (defBody s_i_InvalidTerm) (defScope s_i_InvalidTerm) .none kV2 dc2 pm2 an2 cd2 ct2), sl2⟩) (c2 : PySem.W.codeIn K cd2 "InvalidTerm.__init__" = true) (k2 : PySem.W.keepIn K (.ref f2) = true)
    (t2 : PySem.W.typeIn K (.ref f2) = some (.type "function"))
    (a3 : PySem.W.findIn K (.ref C_InvalidName) "__init__" = some (some (.ref f3)))
    (l3 : K.lookup f3 = some ⟨oc3, od3, .func (PySem.W.fnOf "__init__" "InvalidName.__init__" (defArgs s_i_InvalidName) (defBody s_i_InvalidName) (defScope s_i_InvalidName) .none kV3 dc3 pm3 an3 cd3 ct3), sl3⟩) (c3 : PySem.W.codeIn K cd3 "InvalidName.__init__" = true) (k3 : PySem.W.keepIn K (.ref f3) = true)
    (t3 : PySem.W.typeIn K (.ref f3) = some (.type "function"))
    (a4 : PySem.W.findIn K (.ref C_InvalidCount) "__init__" = some (some (.ref f4)))
    (l4 : K.lookup f4 = some ⟨oc4, od4, .func (PySem.W.fnOf "__init__" "InvalidCount.__init__" (defArgs s_i_InvalidCount) (defBody s_i_InvalidCount) (defScope s_i_InvalidCount) .none kV4 dc4 pm4 an4 cd4 ct4), sl4⟩) (c4 : PySem.W.codeIn K cd4 "InvalidCount.__init__" = true) (k4 : PySem.W.keepIn K (.ref f4) = true)
    (t4 : PySem.W.typeIn K (.ref f4) = some (.type "function"))
    (a5 : PySem.W.findIn K (.ref C_InvalidTimes) "__init__" = some (some (.ref f5)))
    (l5 : K.lookup f5 = some ⟨oc5, od5, .func (PySem.W.fnOf "__init__" "InvalidTimes.__init__" (defArgs s_i_InvalidTimes) (defBody s_i_InvalidTimes) (defScope s_i_InvalidTimes) .none kV5 dc5 pm5 an5 cd5 ct5), sl5⟩) (c5 : PySem.W.codeIn K cd5 "InvalidTimes.__init__" = true) (k5 : PySem.W.keepIn K (.ref f5) = true)
    (t5 : PySem.W.typeIn K (.ref f5) = some (.type "function"))
    (a6 : PySem.W.findIn K (.ref C_InvalidRound) "__init__" = some (some (.ref f6)))
    (l6 : K.lookup f6 = some ⟨oc6, od6, .func (PySem.W.fnOf "__init__" "InvalidRound.__init__" (defArgs s_i_InvalidRound) (defBody s_i_InvalidRound) (defScope s_i_InvalidRound) .none kV6 dc6 pm6 an6 cd6 ct6), sl6⟩) (c6 : PySem.W.codeIn K cd6 "InvalidRound.__init__" = true) (k6 : PySem.W.keepIn K (.ref f6) = true)
    (t6 : PySem.W.typeIn K (.ref f6) = some (.type "function"))
    (a7 : PySem.W.findIn K (.ref C_DuplicateName) "__init__" = some (some (.ref f7)))
    (l7 : K.lookup f7 = some ⟨oc7, od7, .func (PySem.W.fnOf "__init__" "DuplicateName.__init__" (defArgs s_i_DuplicateName) (defBody s_i_DuplicateName) (defScope s_i_DuplicateName) .none kV7 dc7 pm7 an7 cd7 ct7), sl7⟩) (c7 : PySem.W.codeIn K cd7 "DuplicateName.__init__" = true) (k7 : PySem.W.keepIn K (.ref f7) = true)
    (t7 : PySem.W.typeIn K (.ref f7) = some (.type "function"))
    (a8 : PySem.W.findIn K (.ref C_UnknownEvent) "__init__" = some (some (.ref f8)))
    (l8 : K.lookup f8 = some ⟨oc8, od8, .func (PySem.W.fnOf "__init__" "UnknownEvent.__init__" (defArgs s_i_UnknownEvent) (defBody s_i_UnknownEvent) (defScope s_i_UnknownEvent) .none kV8 dc8 pm8 an8 cd8 ct8), sl8⟩) (c8 : PySem.W.codeIn K cd8 "UnknownEvent.__init__" = true) (k8 : PySem.W.keepIn K (.ref f8) = true)
    (t8 : PySem.W.typeIn K (.ref f8) = some (.type "function"))
    (a9 : PySem.W.findIn K (.ref C_ZeroDenominator) "__init__" = some (some (.ref f9)))
    (l9 : K.lookup f9 = some ⟨oc9, od9, .func (PySem.W.fnOf "__init__" "ZeroDenominator.__init__" (defArgs s_i_ZeroDenominator) (defBody s_i_ZeroDenominator) (defScope s_i_ZeroDenominator) .none kV9 dc9 pm9 an9 cd9 ct9), sl9⟩) (c9 : PySem.W.codeIn K cd9 "ZeroDenominator.__init__" = true) (k9 : PySem.W.keepIn K (.ref f9) = true)
    (t9 : PySem.W.typeIn K (.ref f9) = some (.type "function"))
    (a10 : PySem.W.nsIn K mainGlobals "greatest_divisor" = some (some (.ref f10)))
    (l10 : K.lookup f10 = some ⟨oc10, od10, .func (PySem.W.fnOf "greatest_divisor" "greatest_divisor" (defArgs s_p_greatest_divisor) (defBody s_p_greatest_divisor) (defScope s_p_greatest_divisor) .none kV10 dc10 pm10 an10 cd10 ct10), sl10⟩) (c10 : PySem.W.codeIn K cd10 "greatest_divisor" = true) (k10 : PySem.W.keepIn K (.ref f10) = true)
    (a11 : PySem.W.nsIn K mainGlobals "least_multiple" = some (some (.ref f11)))
    (l11 : K.lookup f11 = some ⟨oc11, od11, .func (PySem.W.fnOf "least_multiple" "least_multiple" (defArgs s_p_least_multiple) (defBody s_p_least_multiple) (defScope s_p_least_multiple) .none kV11 dc11 pm11 an11 cd11 ct11), sl11⟩) (c11 : PySem.W.codeIn K cd11 "least_multiple" = true) (k11 : PySem.W.keepIn K (.ref f11) = true)
    (a12 : PySem.W.nsIn K mainGlobals "common_denominator" = some (some (.ref f12)))
    (l12 : K.lookup f12 = some ⟨oc12, od12, .func (PySem.W.fnOf "common_denominator" "common_denominator" (defArgs s_p_common_denominator) (defBody s_p_common_denominator) (defScope s_p_common_denominator) .none kV12 dc12 pm12 an12 cd12 ct12), sl12⟩) (c12 : PySem.W.codeIn K cd12 "common_denominator" = true) (k12 : PySem.W.keepIn K (.ref f12) = true)
    (a13 : PySem.W.nsIn K mainGlobals "fraction" = some (some (.ref f13)))
    (l13 : K.lookup f13 = some ⟨oc13, od13, .func (PySem.W.fnOf "fraction" "fraction" (defArgs s_p_fraction) (defBody s_p_fraction) (defScope s_p_fraction) (.ref dT13) kV13 dc13 pm13 an13 cd13 ct13), sl13⟩) (c13 : PySem.W.codeIn K cd13 "fraction" = true) (k13 : PySem.W.keepIn K (.ref f13) = true)
    (d13 : K.lookup dT13 = some ⟨.type "tuple", do13, .seq #[.int 1 dt13_0] dn13, ds13⟩)
    (a14 : PySem.W.nsIn K mainGlobals "add" = some (some (.ref f14)))
    (l14 : K.lookup f14 = some ⟨oc14, od14, .func (PySem.W.fnOf "add" "add" (defArgs s_p_add) (defBody s_p_add) (defScope s_p_add) .none kV14 dc14 pm14 an14 cd14 ct14), sl14⟩) (c14 : PySem.W.codeIn K cd14 "add" = true) (k14 : PySem.W.keepIn K (.ref f14) = true)
    (a15 : PySem.W.nsIn K mainGlobals "subtract" = some (some (.ref f15)))
    (l15 : K.lookup f15 = some ⟨oc15, od15, .func (PySem.W.fnOf "subtract" "subtract" (defArgs s_p_subtract) (defBody s_p_subtract) (defScope s_p_subtract) .none kV15 dc15 pm15 an15 cd15 ct15), sl15⟩) (c15 : PySem.W.codeIn K cd15 "subtract" = true) (k15 : PySem.W.keepIn K (.ref f15) = true)
    (a16 : PySem.W.nsIn K mainGlobals "multiply" = some (some (.ref f16)))
    (l16 : K.lookup f16 = some ⟨oc16, od16, .func (PySem.W.fnOf "multiply" "multiply" (defArgs s_p_multiply) (defBody s_p_multiply) (defScope s_p_multiply) .none kV16 dc16 pm16 an16 cd16 ct16), sl16⟩) (c16 : PySem.W.codeIn K cd16 "multiply" = true) (k16 : PySem.W.keepIn K (.ref f16) = true)
    (a17 : PySem.W.nsIn K mainGlobals "divide" = some (some (.ref f17)))
    (l17 : K.lookup f17 = some ⟨oc17, od17, .func (PySem.W.fnOf "divide" "divide" (defArgs s_p_divide) (defBody s_p_divide) (defScope s_p_divide) .none kV17 dc17 pm17 an17 cd17 ct17), sl17⟩) (c17 : PySem.W.codeIn K cd17 "divide" = true) (k17 : PySem.W.keepIn K (.ref f17) = true)
    (a18 : PySem.W.nsIn K mainGlobals "is_less" = some (some (.ref f18)))
    (l18 : K.lookup f18 = some ⟨oc18, od18, .func (PySem.W.fnOf "is_less" "is_less" (defArgs s_p_is_less) (defBody s_p_is_less) (defScope s_p_is_less) .none kV18 dc18 pm18 an18 cd18 ct18), sl18⟩) (c18 : PySem.W.codeIn K cd18 "is_less" = true) (k18 : PySem.W.keepIn K (.ref f18) = true)
    (a19 : PySem.W.nsIn K mainGlobals "total" = some (some (.ref f19)))
    (l19 : K.lookup f19 = some ⟨oc19, od19, .func (PySem.W.fnOf "total" "total" (defArgs s_p_total) (defBody s_p_total) (defScope s_p_total) .none (.ref kD19) dc19 pm19 an19 cd19 ct19), sl19⟩) (c19 : PySem.W.codeIn K cd19 "total" = true) (k19 : PySem.W.keepIn K (.ref f19) = true)
    (kd19_0 : PySem.W.nsIn K kD19 "start" = some (some (.ref o_ZERO)))
    (a20 : PySem.W.nsIn K mainGlobals "index_of_max" = some (some (.ref f20)))
    (l20 : K.lookup f20 = some ⟨oc20, od20, .func (PySem.W.fnOf "index_of_max" "index_of_max" (defArgs s_p_index_of_max) (defBody s_p_index_of_max) (defScope s_p_index_of_max) .none kV20 dc20 pm20 an20 cd20 ct20), sl20⟩) (c20 : PySem.W.codeIn K cd20 "index_of_max" = true) (k20 : PySem.W.keepIn K (.ref f20) = true)
    (a21 : PySem.W.nsIn K mainGlobals "ceiling" = some (some (.ref f21)))
    (l21 : K.lookup f21 = some ⟨oc21, od21, .func (PySem.W.fnOf "ceiling" "ceiling" (defArgs s_p_ceiling) (defBody s_p_ceiling) (defScope s_p_ceiling) .none kV21 dc21 pm21 an21 cd21 ct21), sl21⟩) (c21 : PySem.W.codeIn K cd21 "ceiling" = true) (k21 : PySem.W.keepIn K (.ref f21) = true)
    (a22 : PySem.W.nsIn K mainGlobals "is_valid_name" = some (some (.ref f22)))
    (l22 : K.lookup f22 = some ⟨oc22, od22, .func (PySem.W.fnOf "is_valid_name" "is_valid_name" (defArgs s_p_is_valid_name) (defBody s_p_is_valid_name) (defScope s_p_is_valid_name) .none kV22 dc22 pm22 an22 cd22 ct22), sl22⟩) (c22 : PySem.W.codeIn K cd22 "is_valid_name" = true) (k22 : PySem.W.keepIn K (.ref f22) = true)
    (a23 : PySem.W.nsIn K mainGlobals "is_number" = some (some (.ref f23)))
    (l23 : K.lookup f23 = some ⟨oc23, od23, .func (PySem.W.fnOf "is_number" "is_number" (defArgs s_p_is_number) (defBody s_p_is_number) (defScope s_p_is_number) .none kV23 dc23 pm23 an23 cd23 ct23), sl23⟩) (c23 : PySem.W.codeIn K cd23 "is_number" = true) (k23 : PySem.W.keepIn K (.ref f23) = true)
    (a24 : PySem.W.nsIn K mainGlobals "is_term_fraction" = some (some (.ref f24)))
    (l24 : K.lookup f24 = some ⟨oc24, od24, .func (PySem.W.fnOf "is_term_fraction" "is_term_fraction" (defArgs s_p_is_term_fraction) (defBody s_p_is_term_fraction) (defScope s_p_is_term_fraction) .none kV24 dc24 pm24 an24 cd24 ct24), sl24⟩) (c24 : PySem.W.codeIn K cd24 "is_term_fraction" = true) (k24 : PySem.W.keepIn K (.ref f24) = true)
    (a25 : PySem.W.nsIn K mainGlobals "is_weighted" = some (some (.ref f25)))
    (l25 : K.lookup f25 = some ⟨oc25, od25, .func (PySem.W.fnOf "is_weighted" "is_weighted" (defArgs s_p_is_weighted) (defBody s_p_is_weighted) (defScope s_p_is_weighted) .none kV25 dc25 pm25 an25 cd25 ct25), sl25⟩) (c25 : PySem.W.codeIn K cd25 "is_weighted" = true) (k25 : PySem.W.keepIn K (.ref f25) = true)
    (a26 : PySem.W.nsIn K mainGlobals "is_mixture" = some (some (.ref f26)))
    (l26 : K.lookup f26 = some ⟨oc26, od26, .func (PySem.W.fnOf "is_mixture" "is_mixture" (defArgs s_p_is_mixture) (defBody s_p_is_mixture) (defScope s_p_is_mixture) .none kV26 dc26 pm26 an26 cd26 ct26), sl26⟩) (c26 : PySem.W.codeIn K cd26 "is_mixture" = true) (k26 : PySem.W.keepIn K (.ref f26) = true)
    (a27 : PySem.W.nsIn K mainGlobals "has_term_form" = some (some (.ref f27)))
    (l27 : K.lookup f27 = some ⟨oc27, od27, .func (PySem.W.fnOf "has_term_form" "has_term_form" (defArgs s_p_has_term_form) (defBody s_p_has_term_form) (defScope s_p_has_term_form) .none kV27 dc27 pm27 an27 cd27 ct27), sl27⟩) (c27 : PySem.W.codeIn K cd27 "has_term_form" = true) (k27 : PySem.W.keepIn K (.ref f27) = true)
    (a28 : PySem.W.nsIn K mainGlobals "subterms" = some (some (.ref f28)))
    (l28 : K.lookup f28 = some ⟨oc28, od28, .func (PySem.W.fnOf "subterms" "subterms" (defArgs s_p_subterms) (defBody s_p_subterms) (defScope s_p_subterms) .none kV28 dc28 pm28 an28 cd28 ct28), sl28⟩) (c28 : PySem.W.codeIn K cd28 "subterms" = true) (k28 : PySem.W.keepIn K (.ref f28) = true)
    (a29 : PySem.W.nsIn K mainGlobals "is_valid_term" = some (some (.ref f29)))
    (l29 : K.lookup f29 = some ⟨oc29, od29, .func (PySem.W.fnOf "is_valid_term" "is_valid_term" (defArgs s_p_is_valid_term) (defBody s_p_is_valid_term) (defScope s_p_is_valid_term) .none kV29 dc29 pm29 an29 cd29 ct29), sl29⟩) (c29 : PySem.W.codeIn K cd29 "is_valid_term" = true) (k29 : PySem.W.keepIn K (.ref f29) = true)
    (a30 : PySem.W.nsIn K mainGlobals "event_names" = some (some (.ref f30)))
    (l30 : K.lookup f30 = some ⟨oc30, od30, .func (PySem.W.fnOf "event_names" "event_names" (defArgs s_p_event_names) (defBody s_p_event_names) (defScope s_p_event_names) .none kV30 dc30 pm30 an30 cd30 ct30), sl30⟩) (c30 : PySem.W.codeIn K cd30 "event_names" = true) (k30 : PySem.W.keepIn K (.ref f30) = true)
    (a31 : PySem.W.nsIn K mainGlobals "delays_in" = some (some (.ref f31)))
    (l31 : K.lookup f31 = some ⟨oc31, od31, .func (PySem.W.fnOf "delays_in" "delays_in" (defArgs s_p_delays_in) (defBody s_p_delays_in) (defScope s_p_delays_in) .none kV31 dc31 pm31 an31 cd31 ct31), sl31⟩) (c31 : PySem.W.codeIn K cd31 "delays_in" = true) (k31 : PySem.W.keepIn K (.ref f31) = true)
    (a32 : PySem.W.nsIn K mainGlobals "check_names" = some (some (.ref f32)))
    (l32 : K.lookup f32 = some ⟨oc32, od32, .func (PySem.W.fnOf "check_names" "check_names" (defArgs s_p_check_names) (defBody s_p_check_names) (defScope s_p_check_names) .none kV32 dc32 pm32 an32 cd32 ct32), sl32⟩) (c32 : PySem.W.codeIn K cd32 "check_names" = true) (k32 : PySem.W.keepIn K (.ref f32) = true)
    (a33 : PySem.W.nsIn K mainGlobals "weight_scale" = some (some (.ref f33)))
    (l33 : K.lookup f33 = some ⟨oc33, od33, .func (PySem.W.fnOf "weight_scale" "weight_scale" (defArgs s_p_weight_scale) (defBody s_p_weight_scale) (defScope s_p_weight_scale) .none kV33 dc33 pm33 an33 cd33 ct33), sl33⟩) (c33 : PySem.W.codeIn K cd33 "weight_scale" = true) (k33 : PySem.W.keepIn K (.ref f33) = true)
    (a34 : PySem.W.nsIn K mainGlobals "rate_of" = some (some (.ref f34)))
    (l34 : K.lookup f34 = some ⟨oc34, od34, .func (PySem.W.fnOf "rate_of" "rate_of" (defArgs s_p_rate_of) (defBody s_p_rate_of) (defScope s_p_rate_of) .none kV34 dc34 pm34 an34 cd34 ct34), sl34⟩) (c34 : PySem.W.codeIn K cd34 "rate_of" = true) (k34 : PySem.W.keepIn K (.ref f34) = true)
    (a35 : PySem.W.nsIn K mainGlobals "is_regime" = some (some (.ref f35)))
    (l35 : K.lookup f35 = some ⟨oc35, od35, .func (PySem.W.fnOf "is_regime" "is_regime" (defArgs s_p_is_regime) (defBody s_p_is_regime) (defScope s_p_is_regime) .none kV35 dc35 pm35 an35 cd35 ct35), sl35⟩) (c35 : PySem.W.codeIn K cd35 "is_regime" = true) (k35 : PySem.W.keepIn K (.ref f35) = true)
    (a36 : PySem.W.nsIn K mainGlobals "check_row_names" = some (some (.ref f36)))
    (l36 : K.lookup f36 = some ⟨oc36, od36, .func (PySem.W.fnOf "check_row_names" "check_row_names" (defArgs s_p_check_row_names) (defBody s_p_check_row_names) (defScope s_p_check_row_names) .none kV36 dc36 pm36 an36 cd36 ct36), sl36⟩) (c36 : PySem.W.codeIn K cd36 "check_row_names" = true) (k36 : PySem.W.keepIn K (.ref f36) = true)
    (a37 : PySem.W.nsIn K mainGlobals "check_row_terms" = some (some (.ref f37)))
    (l37 : K.lookup f37 = some ⟨oc37, od37, .func (PySem.W.fnOf "check_row_terms" "check_row_terms" (defArgs s_p_check_row_terms) (defBody s_p_check_row_terms) (defScope s_p_check_row_terms) .none kV37 dc37 pm37 an37 cd37 ct37), sl37⟩) (c37 : PySem.W.codeIn K cd37 "check_row_terms" = true) (k37 : PySem.W.keepIn K (.ref f37) = true)
    (a38 : PySem.W.findIn K (.ref C_EventSystem) "__init__" = some (some (.ref f38)))
    (l38 : K.lookup f38 = some ⟨oc38, od38, .func (PySem.W.fnOf "__init__" "EventSystem.__init__" (defArgs s_o_EventSystem_init) (defBody s_o_EventSystem_init) (defScope s_o_EventSystem_init) .none kV38 dc38 pm38 an38 cd38 ct38), sl38⟩) (c38 : PySem.W.codeIn K cd38 "EventSystem.__init__" = true) (k38 : PySem.W.keepIn K (.ref f38) = true)
    (i38 : PySem.W.isFn K (.ref f38) = true)
    (a39 : PySem.W.findIn K (.ref C_EventSystem) "rows" = some (some (.ref f39)))
    (l39 : K.lookup f39 = some ⟨oc39, od39, .func (PySem.W.fnOf "rows" "EventSystem.rows" (defArgs s_o_EventSystem_rows) (defBody s_o_EventSystem_rows) (defScope s_o_EventSystem_rows) .none kV39 dc39 pm39 an39 cd39 ct39), sl39⟩) (c39 : PySem.W.codeIn K cd39 "EventSystem.rows" = true) (k39 : PySem.W.keepIn K (.ref f39) = true)
    (i39 : PySem.W.isFn K (.ref f39) = true)
    (a40 : PySem.W.findIn K (.ref C_EventSystem) "term" = some (some (.ref f40)))
    (l40 : K.lookup f40 = some ⟨oc40, od40, .func (PySem.W.fnOf "term" "EventSystem.term" (defArgs s_o_EventSystem_term) (defBody s_o_EventSystem_term) (defScope s_o_EventSystem_term) .none kV40 dc40 pm40 an40 cd40 ct40), sl40⟩) (c40 : PySem.W.codeIn K cd40 "EventSystem.term" = true) (k40 : PySem.W.keepIn K (.ref f40) = true)
    (i40 : PySem.W.isFn K (.ref f40) = true)
    (a41 : PySem.W.findIn K (.ref C_EventSystem) "__len__" = some (some (.ref f41)))
    (l41 : K.lookup f41 = some ⟨oc41, od41, .func (PySem.W.fnOf "__len__" "EventSystem.__len__" (defArgs s_o_EventSystem_len) (defBody s_o_EventSystem_len) (defScope s_o_EventSystem_len) .none kV41 dc41 pm41 an41 cd41 ct41), sl41⟩) (c41 : PySem.W.codeIn K cd41 "EventSystem.__len__" = true) (k41 : PySem.W.keepIn K (.ref f41) = true)
    (i41 : PySem.W.isFn K (.ref f41) = true)
    (a42 : PySem.W.nsIn K mainGlobals "_law_source" = some (some (.ref f42)))
    (l42 : K.lookup f42 = some ⟨oc42, od42, .func (PySem.W.fnOf "_law_source" "_law_source" (defArgs s_l_source) (defBody s_l_source) (defScope s_l_source) .none kV42 dc42 pm42 an42 cd42 ct42), sl42⟩) (c42 : PySem.W.codeIn K cd42 "_law_source" = true) (k42 : PySem.W.keepIn K (.ref f42) = true)
    (a43 : PySem.W.nsIn K mainGlobals "_law_draw" = some (some (.ref f43)))
    (l43 : K.lookup f43 = some ⟨oc43, od43, .func (PySem.W.fnOf "_law_draw" "_law_draw" (defArgs s_l_draw) (defBody s_l_draw) (defScope s_l_draw) .none kV43 dc43 pm43 an43 cd43 ct43), sl43⟩) (c43 : PySem.W.codeIn K cd43 "_law_draw" = true) (k43 : PySem.W.keepIn K (.ref f43) = true)
    (a44 : PySem.W.nsIn K mainGlobals "_law_choice" = some (some (.ref f44)))
    (l44 : K.lookup f44 = some ⟨oc44, od44, .func (PySem.W.fnOf "_law_choice" "_law_choice" (defArgs s_l_choice) (defBody s_l_choice) (defScope s_l_choice) .none kV44 dc44 pm44 an44 cd44 ct44), sl44⟩) (c44 : PySem.W.codeIn K cd44 "_law_choice" = true) (k44 : PySem.W.keepIn K (.ref f44) = true)
    (a45 : PySem.W.nsIn K mainGlobals "_law_shuffled" = some (some (.ref f45)))
    (l45 : K.lookup f45 = some ⟨oc45, od45, .func (PySem.W.fnOf "_law_shuffled" "_law_shuffled" (defArgs s_l_shuffled) (defBody s_l_shuffled) (defScope s_l_shuffled) .none kV45 dc45 pm45 an45 cd45 ct45), sl45⟩) (c45 : PySem.W.codeIn K cd45 "_law_shuffled" = true) (k45 : PySem.W.keepIn K (.ref f45) = true)
    (a46 : PySem.W.nsIn K mainGlobals "_law_equal" = some (some (.ref f46)))
    (l46 : K.lookup f46 = some ⟨oc46, od46, .func (PySem.W.fnOf "_law_equal" "_law_equal" (defArgs s_l_equal) (defBody s_l_equal) (defScope s_l_equal) .none kV46 dc46 pm46 an46 cd46 ct46), sl46⟩) (c46 : PySem.W.codeIn K cd46 "_law_equal" = true) (k46 : PySem.W.keepIn K (.ref f46) = true)
    (a47 : PySem.W.nsIn K mainGlobals "_law_error_field" = some (some (.ref f47)))
    (l47 : K.lookup f47 = some ⟨oc47, od47, .func (PySem.W.fnOf "_law_error_field" "_law_error_field" (defArgs s_l_error_field) (defBody s_l_error_field) (defScope s_l_error_field) .none kV47 dc47 pm47 an47 cd47 ct47), sl47⟩) (c47 : PySem.W.codeIn K cd47 "_law_error_field" = true) (k47 : PySem.W.keepIn K (.ref f47) = true)
    (a48 : PySem.W.nsIn K mainGlobals "_law_outcome" = some (some (.ref f48)))
    (l48 : K.lookup f48 = some ⟨oc48, od48, .func (PySem.W.fnOf "_law_outcome" "_law_outcome" (defArgs s_l_outcome) (defBody s_l_outcome) (defScope s_l_outcome) .none kV48 dc48 pm48 an48 cd48 ct48), sl48⟩) (c48 : PySem.W.codeIn K cd48 "_law_outcome" = true) (k48 : PySem.W.keepIn K (.ref f48) = true)
    (a49 : PySem.W.nsIn K mainGlobals "_law_error" = some (some (.ref f49)))
    (l49 : K.lookup f49 = some ⟨oc49, od49, .func (PySem.W.fnOf "_law_error" "_law_error" (defArgs s_l_error) (defBody s_l_error) (defScope s_l_error) .none kV49 dc49 pm49 an49 cd49 ct49), sl49⟩) (c49 : PySem.W.codeIn K cd49 "_law_error" = true) (k49 : PySem.W.keepIn K (.ref f49) = true)
    (a50 : PySem.W.nsIn K mainGlobals "_law_reduce" = some (some (.ref f50)))
    (l50 : K.lookup f50 = some ⟨oc50, od50, .func (PySem.W.fnOf "_law_reduce" "_law_reduce" (defArgs s_l_reduce) (defBody s_l_reduce) (defScope s_l_reduce) .none kV50 dc50 pm50 an50 cd50 ct50), sl50⟩) (c50 : PySem.W.codeIn K cd50 "_law_reduce" = true) (k50 : PySem.W.keepIn K (.ref f50) = true)
    (a51 : PySem.W.nsIn K mainGlobals "_law_small" = some (some (.ref f51)))
    (l51 : K.lookup f51 = some ⟨oc51, od51, .func (PySem.W.fnOf "_law_small" "_law_small" (defArgs s_l_small) (defBody s_l_small) (defScope s_l_small) .none kV51 dc51 pm51 an51 cd51 ct51), sl51⟩) (c51 : PySem.W.codeIn K cd51 "_law_small" = true) (k51 : PySem.W.keepIn K (.ref f51) = true)
    (a52 : PySem.W.nsIn K mainGlobals "_law_letters" = some (some (.ref f52)))
    (l52 : K.lookup f52 = some ⟨oc52, od52, .func (PySem.W.fnOf "_law_letters" "_law_letters" (defArgs s_l_letters) (defBody s_l_letters) (defScope s_l_letters) .none kV52 dc52 pm52 an52 cd52 ct52), sl52⟩) (c52 : PySem.W.codeIn K cd52 "_law_letters" = true) (k52 : PySem.W.keepIn K (.ref f52) = true)
    (a53 : PySem.W.nsIn K mainGlobals "_law_is_name" = some (some (.ref f53)))
    (l53 : K.lookup f53 = some ⟨oc53, od53, .func (PySem.W.fnOf "_law_is_name" "_law_is_name" (defArgs s_l_is_name) (defBody s_l_is_name) (defScope s_l_is_name) .none kV53 dc53 pm53 an53 cd53 ct53), sl53⟩) (c53 : PySem.W.codeIn K cd53 "_law_is_name" = true) (k53 : PySem.W.keepIn K (.ref f53) = true)
    (a54 : PySem.W.nsIn K mainGlobals "_law_plain" = some (some (.ref f54)))
    (l54 : K.lookup f54 = some ⟨oc54, od54, .func (PySem.W.fnOf "_law_plain" "_law_plain" (defArgs s_l_plain) (defBody s_l_plain) (defScope s_l_plain) .none kV54 dc54 pm54 an54 cd54 ct54), sl54⟩) (c54 : PySem.W.codeIn K cd54 "_law_plain" = true) (k54 : PySem.W.keepIn K (.ref f54) = true)
    (a55 : PySem.W.nsIn K mainGlobals "_law_names" = some (some (.ref f55)))
    (l55 : K.lookup f55 = some ⟨oc55, od55, .func (PySem.W.fnOf "_law_names" "_law_names" (defArgs s_l_names) (defBody s_l_names) (defScope s_l_names) .none kV55 dc55 pm55 an55 cd55 ct55), sl55⟩) (c55 : PySem.W.codeIn K cd55 "_law_names" = true) (k55 : PySem.W.keepIn K (.ref f55) = true)
    (a56 : PySem.W.nsIn K mainGlobals "_law_operands" = some (some (.ref f56)))
    (l56 : K.lookup f56 = some ⟨oc56, od56, .func (PySem.W.fnOf "_law_operands" "_law_operands" (defArgs s_l_operands) (defBody s_l_operands) (defScope s_l_operands) .none kV56 dc56 pm56 an56 cd56 ct56), sl56⟩) (c56 : PySem.W.codeIn K cd56 "_law_operands" = true) (k56 : PySem.W.keepIn K (.ref f56) = true)
    (a57 : PySem.W.nsIn K mainGlobals "_law_shares" = some (some (.ref f57)))
    (l57 : K.lookup f57 = some ⟨oc57, od57, .func (PySem.W.fnOf "_law_shares" "_law_shares" (defArgs s_l_shares) (defBody s_l_shares) (defScope s_l_shares) .none kV57 dc57 pm57 an57 cd57 ct57), sl57⟩) (c57 : PySem.W.codeIn K cd57 "_law_shares" = true) (k57 : PySem.W.keepIn K (.ref f57) = true)
    (a58 : PySem.W.nsIn K mainGlobals "_law_term" = some (some (.ref f58)))
    (l58 : K.lookup f58 = some ⟨oc58, od58, .func (PySem.W.fnOf "_law_term" "_law_term" (defArgs s_l_term) (defBody s_l_term) (defScope s_l_term) .none kV58 dc58 pm58 an58 cd58 ct58), sl58⟩) (c58 : PySem.W.codeIn K cd58 "_law_term" = true) (k58 : PySem.W.keepIn K (.ref f58) = true)
    (a59 : PySem.W.nsIn K mainGlobals "_law_many_lines" = some (some (.ref f59)))
    (l59 : K.lookup f59 = some ⟨oc59, od59, .func (PySem.W.fnOf "_law_many_lines" "_law_many_lines" (defArgs s_l_many_lines) (defBody s_l_many_lines) (defScope s_l_many_lines) .none kV59 dc59 pm59 an59 cd59 ct59), sl59⟩) (c59 : PySem.W.codeIn K cd59 "_law_many_lines" = true) (k59 : PySem.W.keepIn K (.ref f59) = true)
    (a60 : PySem.W.nsIn K mainGlobals "_law_narrow_term" = some (some (.ref f60)))
    (l60 : K.lookup f60 = some ⟨oc60, od60, .func (PySem.W.fnOf "_law_narrow_term" "_law_narrow_term" (defArgs s_l_narrow_term) (defBody s_l_narrow_term) (defScope s_l_narrow_term) .none kV60 dc60 pm60 an60 cd60 ct60), sl60⟩) (c60 : PySem.W.codeIn K cd60 "_law_narrow_term" = true) (k60 : PySem.W.keepIn K (.ref f60) = true)
    (a61 : PySem.W.nsIn K mainGlobals "_law_rows" = some (some (.ref f61)))
    (l61 : K.lookup f61 = some ⟨oc61, od61, .func (PySem.W.fnOf "_law_rows" "_law_rows" (defArgs s_l_rows) (defBody s_l_rows) (defScope s_l_rows) .none kV61 dc61 pm61 an61 cd61 ct61), sl61⟩) (c61 : PySem.W.codeIn K cd61 "_law_rows" = true) (k61 : PySem.W.keepIn K (.ref f61) = true)
    (a62 : PySem.W.nsIn K mainGlobals "_law_initial_times" = some (some (.ref f62)))
    (l62 : K.lookup f62 = some ⟨oc62, od62, .func (PySem.W.fnOf "_law_initial_times" "_law_initial_times" (defArgs s_l_initial_times) (defBody s_l_initial_times) (defScope s_l_initial_times) .none kV62 dc62 pm62 an62 cd62 ct62), sl62⟩) (c62 : PySem.W.codeIn K cd62 "_law_initial_times" = true) (k62 : PySem.W.keepIn K (.ref f62) = true)
    (a63 : PySem.W.nsIn K mainGlobals "_law_unused_name" = some (some (.ref f63)))
    (l63 : K.lookup f63 = some ⟨oc63, od63, .func (PySem.W.fnOf "_law_unused_name" "_law_unused_name" (defArgs s_l_unused_name) (defBody s_l_unused_name) (defScope s_l_unused_name) .none kV63 dc63 pm63 an63 cd63 ct63), sl63⟩) (c63 : PySem.W.codeIn K cd63 "_law_unused_name" = true) (k63 : PySem.W.keepIn K (.ref f63) = true)
    (a64 : PySem.W.nsIn K mainGlobals "_law_wide_term" = some (some (.ref f64)))
    (l64 : K.lookup f64 = some ⟨oc64, od64, .func (PySem.W.fnOf "_law_wide_term" "_law_wide_term" (defArgs s_l_wide_term) (defBody s_l_wide_term) (defScope s_l_wide_term) .none kV64 dc64 pm64 an64 cd64 ct64), sl64⟩) (c64 : PySem.W.codeIn K cd64 "_law_wide_term" = true) (k64 : PySem.W.keepIn K (.ref f64) = true)
    (a65 : PySem.W.nsIn K mainGlobals "law" = some (some (.ref f65)))
    (l65 : K.lookup f65 = some ⟨oc65, od65, .func (PySem.W.fnOf "law" "law" (defArgs s_p_law) (defBody s_p_law) (defScope s_p_law) .none kV65 dc65 pm65 an65 (.ref cL) ct65), sl65⟩) (c65 : PySem.W.codeIn K (.ref cL) "law" = true) (k65 : PySem.W.keepIn K (.ref f65) = true)
    (z0 : PySem.W.nsIn K mainGlobals "ValueError" = some none)
    (z1 : PySem.W.nsIn K mainGlobals "LookupError" = some none)
    (z2 : PySem.W.nsIn K mainGlobals "ZeroDivisionError" = some none)
    (z3 : PySem.W.nsIn K mainGlobals "abs" = some none)
    (z4 : PySem.W.nsIn K mainGlobals "enumerate" = some none)
    (z5 : PySem.W.nsIn K mainGlobals "all" = some none)
    (z6 : PySem.W.nsIn K mainGlobals "isinstance" = some none)
    (z7 : PySem.W.nsIn K mainGlobals "str" = some none)
    (z8 : PySem.W.nsIn K mainGlobals "len" = some none)
    (z9 : PySem.W.nsIn K mainGlobals "int" = some none)
    (z10 : PySem.W.nsIn K mainGlobals "bool" = some none)
    (z11 : PySem.W.nsIn K mainGlobals "tuple" = some none)
    (z12 : PySem.W.nsIn K mainGlobals "list" = some none)
    (z13 : PySem.W.nsIn K mainGlobals "zip" = some none)
    (z14 : PySem.W.nsIn K mainGlobals "set" = some none)
    (z15 : PySem.W.nsIn K mainGlobals "range" = some none)
    (z16 : PySem.W.nsIn K mainGlobals "max" = some none)
    (z17 : PySem.W.nsIn K mainGlobals "sum" = some none)
    (q_ZERO : PySem.W.nsIn K mainGlobals "ZERO" = some (some (.ref o_ZERO))) (m_ZERO : K.lookup o_ZERO = some ⟨.type "tuple", od_ZERO, .seq #[.int 0 tk_ZERO_0, .int 1 tk_ZERO_1] on_ZERO, os_ZERO⟩)
    (q_KEYWORDS : PySem.W.nsIn K mainGlobals "KEYWORDS" = some (some (.ref o_KEYWORDS))) (m_KEYWORDS : K.lookup o_KEYWORDS = some ⟨.type "tuple", od_KEYWORDS, .seq #[.str "max" tk_KEYWORDS_0, .str "min" tk_KEYWORDS_1, .str "median" tk_KEYWORDS_2, .str "mix" tk_KEYWORDS_3] on_KEYWORDS, os_KEYWORDS⟩)
    (q_MAX_NAME : PySem.W.nsIn K mainGlobals "MAX_NAME" = some (some (.int 6 tk_MAX_NAME)))
    (q_MAX_SIDE : PySem.W.nsIn K mainGlobals "MAX_SIDE" = some (some (.int 999999999999 tk_MAX_SIDE)))
    (q_MAX_OPERANDS : PySem.W.nsIn K mainGlobals "MAX_OPERANDS" = some (some (.int 6 tk_MAX_OPERANDS)))
    (q_MAX_SIZE : PySem.W.nsIn K mainGlobals "MAX_SIZE" = some (some (.int 40 tk_MAX_SIZE)))
    (q_MAX_DEPTH : PySem.W.nsIn K mainGlobals "MAX_DEPTH" = some (some (.int 10 tk_MAX_DEPTH)))
    (q_MAX_EVENTS : PySem.W.nsIn K mainGlobals "MAX_EVENTS" = some (some (.int 6 tk_MAX_EVENTS)))
    (lc : K.lookup cL = some ⟨.type "code", odc, .fields vsc, slc⟩)
    (v11 : vsc[11]? = some (.ref tL))
    (w11 : vsc.getD 11 .none = .ref tL)
    (v18 : vsc.getD 18 .none = .str fl tfl)
    (v7 : vsc.getD 7 .none = .int fg tg)
    (v9 : vsc.getD 9 .none = .bool inF)
    (v10 : vsc.getD 10 .none = .int tx tt)
    (nct : cL ≠ tL)
    (nT : K.lookup tL = none)
    : LamX.LawAtS l w K CX0 60 63 "_law_script" mg fa h := by
  have e := hfa.symm.trans (PySem.W.mg_of X G a65)
  cases e
  have F0 : FunD K "__init__" "GaitError.__init__" (defArgs s_i_GaitError) (defBody s_i_GaitError) (defScope s_i_GaitError) [(.str "GaitError"), (.str "")] [] f0 (PySem.W.fnOf "__init__" "GaitError.__init__" (defArgs s_i_GaitError) (defBody s_i_GaitError) (defScope s_i_GaitError) (.ref dT0) kV0 dc0 pm0 an0 cd0 ct0) := ⟨⟨_, _, _, _, _, _, _, _, _, _, rfl, l0, c0, .inr ⟨(fun z => by cases z), _, _, [.str "GaitError" dt0_0, .str "" dt0_1], _, rfl, d0, rfl, (.cons ⟨_, rfl⟩ (.cons ⟨_, rfl⟩ .nil))⟩, .inl rfl⟩, k0⟩
  have b0_3 := F0.binds1 (ps := ["self", "tag", "message"]) 3 2 (fun z => nomatch z) rfl fun _ _ _ _ _ _ _ us its h1 h2 => match us, its, h1, h2 with | [_, _, _], [_, _], _, _ => ⟨_, rfl, rfl⟩
  have F1 : FunD K "__init__" "NotFound.__init__" (defArgs s_i_NotFound) (defBody s_i_NotFound) (defScope s_i_NotFound) [(.str "NotFound"), (.str "")] [] f1 (PySem.W.fnOf "__init__" "NotFound.__init__" (defArgs s_i_NotFound) (defBody s_i_NotFound) (defScope s_i_NotFound) (.ref dT1) kV1 dc1 pm1 an1 cd1 ct1) := ⟨⟨_, _, _, _, _, _, _, _, _, _, rfl, l1, c1, .inr ⟨(fun z => by cases z), _, _, [.str "NotFound" dt1_0, .str "" dt1_1], _, rfl, d1, rfl, (.cons ⟨_, rfl⟩ (.cons ⟨_, rfl⟩ .nil))⟩, .inl rfl⟩, k1⟩
  have b1_3 := F1.binds1 (ps := ["self", "tag", "message"]) 3 2 (fun z => nomatch z) rfl fun _ _ _ _ _ _ _ us its h1 h2 => match us, its, h1, h2 with | [_, _, _], [_, _], _, _ => ⟨_, rfl, rfl⟩
  have F2 := fun_mk (st := s_i_InvalidTerm) l2 c2 k2
  have b2 := F2.binds (ps := ["self", "name"]) fun _ _ _ _ _ _ us hl => match us, hl with | [_, _], _ => rfl
  have F3 := fun_mk (st := s_i_InvalidName) l3 c3 k3
  have b3 := F3.binds (ps := ["self", "name"]) fun _ _ _ _ _ _ us hl => match us, hl with | [_, _], _ => rfl
  have F4 := fun_mk (st := s_i_InvalidCount) l4 c4 k4
  have b4 := F4.binds (ps := ["self", "quantity"]) fun _ _ _ _ _ _ us hl => match us, hl with | [_, _], _ => rfl
  have F5 := fun_mk (st := s_i_InvalidTimes) l5 c5 k5
  have b5 := F5.binds (ps := ["self"]) fun _ _ _ _ _ _ us hl => match us, hl with | [_], _ => rfl
  have F6 := fun_mk (st := s_i_InvalidRound) l6 c6 k6
  have b6 := F6.binds (ps := ["self", "number"]) fun _ _ _ _ _ _ us hl => match us, hl with | [_, _], _ => rfl
  have F7 := fun_mk (st := s_i_DuplicateName) l7 c7 k7
  have b7 := F7.binds (ps := ["self", "name"]) fun _ _ _ _ _ _ us hl => match us, hl with | [_, _], _ => rfl
  have F8 := fun_mk (st := s_i_UnknownEvent) l8 c8 k8
  have b8 := F8.binds (ps := ["self", "name"]) fun _ _ _ _ _ _ us hl => match us, hl with | [_, _], _ => rfl
  have F9 := fun_mk (st := s_i_ZeroDenominator) l9 c9 k9
  have b9 := F9.binds (ps := ["self"]) fun _ _ _ _ _ _ us hl => match us, hl with | [_], _ => rfl
  have F10 := fun_mk (st := s_p_greatest_divisor) l10 c10 k10
  have b10 := F10.binds (ps := ["one", "other"]) fun _ _ _ _ _ _ us hl => match us, hl with | [_, _], _ => rfl
  have F11 := fun_mk (st := s_p_least_multiple) l11 c11 k11
  have b11 := F11.binds (ps := ["one", "other"]) fun _ _ _ _ _ _ us hl => match us, hl with | [_, _], _ => rfl
  have F12 := fun_mk (st := s_p_common_denominator) l12 c12 k12
  have b12 := F12.binds (ps := ["row"]) fun _ _ _ _ _ _ us hl => match us, hl with | [_], _ => rfl
  have F13 : FunD K "fraction" "fraction" (defArgs s_p_fraction) (defBody s_p_fraction) (defScope s_p_fraction) [(.int 1)] [] f13 (PySem.W.fnOf "fraction" "fraction" (defArgs s_p_fraction) (defBody s_p_fraction) (defScope s_p_fraction) (.ref dT13) kV13 dc13 pm13 an13 cd13 ct13) := ⟨⟨_, _, _, _, _, _, _, _, _, _, rfl, l13, c13, .inr ⟨(fun z => by cases z), _, _, [.int 1 dt13_0], _, rfl, d13, rfl, (.cons ⟨_, rfl⟩ .nil)⟩, .inl rfl⟩, k13⟩
  have b13_2 := F13.binds1 (ps := ["num", "den"]) 2 1 (fun z => nomatch z) rfl fun _ _ _ _ _ _ _ us its h1 h2 => match us, its, h1, h2 with | [_, _], [_], _, _ => ⟨_, rfl, rfl⟩
  have F14 := fun_mk (st := s_p_add) l14 c14 k14
  have b14 := F14.binds (ps := ["one", "other"]) fun _ _ _ _ _ _ us hl => match us, hl with | [_, _], _ => rfl
  have F15 := fun_mk (st := s_p_subtract) l15 c15 k15
  have b15 := F15.binds (ps := ["one", "other"]) fun _ _ _ _ _ _ us hl => match us, hl with | [_, _], _ => rfl
  have F16 := fun_mk (st := s_p_multiply) l16 c16 k16
  have b16 := F16.binds (ps := ["one", "other"]) fun _ _ _ _ _ _ us hl => match us, hl with | [_, _], _ => rfl
  have F17 := fun_mk (st := s_p_divide) l17 c17 k17
  have b17 := F17.binds (ps := ["one", "other"]) fun _ _ _ _ _ _ us hl => match us, hl with | [_, _], _ => rfl
  have F18 := fun_mk (st := s_p_is_less) l18 c18 k18
  have b18 := F18.binds (ps := ["one", "other"]) fun _ _ _ _ _ _ us hl => match us, hl with | [_, _], _ => rfl
  have F19 : FunD K "total" "total" (defArgs s_p_total) (defBody s_p_total) (defScope s_p_total) [] [("start", (.ref o_ZERO))] f19 (PySem.W.fnOf "total" "total" (defArgs s_p_total) (defBody s_p_total) (defScope s_p_total) .none (.ref kD19) dc19 pm19 an19 cd19 ct19) := ⟨⟨_, _, _, _, _, _, _, _, _, _, rfl, l19, c19, .inl ⟨rfl, rfl⟩, .inr ⟨_, rfl, fun p hp => by
    first | (cases List.mem_singleton.mp hp; exact ⟨_, kd19_0, rfl⟩) | (cases List.mem_singleton.mp hp; exact ⟨_, kd19_0, ⟨_, rfl⟩⟩)⟩⟩, k19⟩
  have b19_1 := F19.binds0 (ps := ["row", "start"]) 1 (fun z => nomatch z) rfl fun _ _ _ _ _ _ us ks h1 h2 => match us, ks, h1, h2 with | [_], [_], _, _ => ⟨_, _, _, _, _, _, rfl, rfl, rfl⟩
  have F20 := fun_mk (st := s_p_index_of_max) l20 c20 k20
  have b20 := F20.binds (ps := ["row"]) fun _ _ _ _ _ _ us hl => match us, hl with | [_], _ => rfl
  have F21 := fun_mk (st := s_p_ceiling) l21 c21 k21
  have b21 := F21.binds (ps := ["one"]) fun _ _ _ _ _ _ us hl => match us, hl with | [_], _ => rfl
  have F22 := fun_mk (st := s_p_is_valid_name) l22 c22 k22
  have b22 := F22.binds (ps := ["thing"]) fun _ _ _ _ _ _ us hl => match us, hl with | [_], _ => rfl
  have F23 := fun_mk (st := s_p_is_number) l23 c23 k23
  have b23 := F23.binds (ps := ["thing"]) fun _ _ _ _ _ _ us hl => match us, hl with | [_], _ => rfl
  have F24 := fun_mk (st := s_p_is_term_fraction) l24 c24 k24
  have b24 := F24.binds (ps := ["thing"]) fun _ _ _ _ _ _ us hl => match us, hl with | [_], _ => rfl
  have F25 := fun_mk (st := s_p_is_weighted) l25 c25 k25
  have b25 := F25.binds (ps := ["pair"]) fun _ _ _ _ _ _ us hl => match us, hl with | [_], _ => rfl
  have F26 := fun_mk (st := s_p_is_mixture) l26 c26 k26
  have b26 := F26.binds (ps := ["pairs"]) fun _ _ _ _ _ _ us hl => match us, hl with | [_], _ => rfl
  have F27 := fun_mk (st := s_p_has_term_form) l27 c27 k27
  have b27 := F27.binds (ps := ["thing"]) fun _ _ _ _ _ _ us hl => match us, hl with | [_], _ => rfl
  have F28 := fun_mk (st := s_p_subterms) l28 c28 k28
  have b28 := F28.binds (ps := ["term"]) fun _ _ _ _ _ _ us hl => match us, hl with | [_], _ => rfl
  have F29 := fun_mk (st := s_p_is_valid_term) l29 c29 k29
  have b29 := F29.binds (ps := ["thing"]) fun _ _ _ _ _ _ us hl => match us, hl with | [_], _ => rfl
  have F30 := fun_mk (st := s_p_event_names) l30 c30 k30
  have b30 := F30.binds (ps := ["term"]) fun _ _ _ _ _ _ us hl => match us, hl with | [_], _ => rfl
  have F31 := fun_mk (st := s_p_delays_in) l31 c31 k31
  have b31 := F31.binds (ps := ["term"]) fun _ _ _ _ _ _ us hl => match us, hl with | [_], _ => rfl
  have F32 := fun_mk (st := s_p_check_names) l32 c32 k32
  have b32 := F32.binds (ps := ["term", "known"]) fun _ _ _ _ _ _ us hl => match us, hl with | [_, _], _ => rfl
  have F33 := fun_mk (st := s_p_weight_scale) l33 c33 k33
  have b33 := F33.binds (ps := ["term"]) fun _ _ _ _ _ _ us hl => match us, hl with | [_], _ => rfl
  have F34 := fun_mk (st := s_p_rate_of) l34 c34 k34
  have b34 := F34.binds (ps := ["system", "name"]) fun _ _ _ _ _ _ us hl => match us, hl with | [_, _], _ => rfl
  have F35 := fun_mk (st := s_p_is_regime) l35 c35 k35
  have b35 := F35.binds (ps := ["system", "times", "rates", "since"]) fun _ _ _ _ _ _ us hl => match us, hl with | [_, _, _, _], _ => rfl
  have F36 := fun_mk (st := s_p_check_row_names) l36 c36 k36
  have b36 := F36.binds (ps := ["rows"]) fun _ _ _ _ _ _ us hl => match us, hl with | [_], _ => rfl
  have F37 := fun_mk (st := s_p_check_row_terms) l37 c37 k37
  have b37 := F37.binds (ps := ["rows"]) fun _ _ _ _ _ _ us hl => match us, hl with | [_], _ => rfl
  have F38 := fun_mk (st := s_o_EventSystem_init) l38 c38 k38
  have b38 := F38.binds (ps := ["self", "rows"]) fun _ _ _ _ _ _ us hl => match us, hl with | [_, _], _ => rfl
  have F39 := fun_mk (st := s_o_EventSystem_rows) l39 c39 k39
  have b39 := F39.binds (ps := ["self"]) fun _ _ _ _ _ _ us hl => match us, hl with | [_], _ => rfl
  have F40 := fun_mk (st := s_o_EventSystem_term) l40 c40 k40
  have b40 := F40.binds (ps := ["self", "name"]) fun _ _ _ _ _ _ us hl => match us, hl with | [_, _], _ => rfl
  have F41 := fun_mk (st := s_o_EventSystem_len) l41 c41 k41
  have b41 := F41.binds (ps := ["self"]) fun _ _ _ _ _ _ us hl => match us, hl with | [_], _ => rfl
  have F42 := fun_mk (st := s_l_source) l42 c42 k42
  have b42 := F42.binds (ps := ["_law_script"]) fun _ _ _ _ _ _ us hl => match us, hl with | [_], _ => rfl
  have F43 := fun_mk (st := s_l_draw) l43 c43 k43
  have b43 := F43.binds (ps := ["_law_rng", "_law_quantity"]) fun _ _ _ _ _ _ us hl => match us, hl with | [_, _], _ => rfl
  have F44 := fun_mk (st := s_l_choice) l44 c44 k44
  have b44 := F44.binds (ps := ["_law_rng", "_law_some"]) fun _ _ _ _ _ _ us hl => match us, hl with | [_, _], _ => rfl
  have F45 := fun_mk (st := s_l_shuffled) l45 c45 k45
  have b45 := F45.binds (ps := ["_law_rng", "_law_some"]) fun _ _ _ _ _ _ us hl => match us, hl with | [_, _], _ => rfl
  have F46 := fun_mk (st := s_l_equal) l46 c46 k46
  have b46 := F46.binds (ps := ["_law_result", "_law_expected"]) fun _ _ _ _ _ _ us hl => match us, hl with | [_, _], _ => rfl
  have F47 := fun_mk (st := s_l_error_field) l47 c47 k47
  have b47 := F47.binds (ps := ["_law_e"]) fun _ _ _ _ _ _ us hl => match us, hl with | [_], _ => rfl
  have F48 := fun_mk (st := s_l_outcome) l48 c48 k48
  have b48 := F48.binds (ps := ["_law_ask"]) fun _ _ _ _ _ _ us hl => match us, hl with | [_], _ => rfl
  have F49 := fun_mk (st := s_l_error) l49 c49 k49
  have b49 := F49.binds (ps := ["_law_ask"]) fun _ _ _ _ _ _ us hl => match us, hl with | [_], _ => rfl
  have F50 := fun_mk (st := s_l_reduce) l50 c50 k50
  have b50 := F50.binds (ps := ["_law_num", "_law_den"]) fun _ _ _ _ _ _ us hl => match us, hl with | [_, _], _ => rfl
  have F51 := fun_mk (st := s_l_small) l51 c51 k51
  have b51 := F51.binds (ps := ["_law_rng"]) fun _ _ _ _ _ _ us hl => match us, hl with | [_], _ => rfl
  have F52 := fun_mk (st := s_l_letters) l52 c52 k52
  have b52 := F52.binds (ps := []) fun _ _ _ _ _ _ us hl => match us, hl with | [], _ => rfl
  have F53 := fun_mk (st := s_l_is_name) l53 c53 k53
  have b53 := F53.binds (ps := ["_law_text"]) fun _ _ _ _ _ _ us hl => match us, hl with | [_], _ => rfl
  have F54 := fun_mk (st := s_l_plain) l54 c54 k54
  have b54 := F54.binds (ps := ["_law_names_here"]) fun _ _ _ _ _ _ us hl => match us, hl with | [_], _ => rfl
  have F55 := fun_mk (st := s_l_names) l55 c55 k55
  have b55 := F55.binds (ps := ["_law_rng", "_law_quantity"]) fun _ _ _ _ _ _ us hl => match us, hl with | [_, _], _ => rfl
  have F56 := fun_mk (st := s_l_operands) l56 c56 k56
  have b56 := F56.binds (ps := ["_law_term_here"]) fun _ _ _ _ _ _ us hl => match us, hl with | [_], _ => rfl
  have F57 := fun_mk (st := s_l_shares) l57 c57 k57
  have b57 := F57.binds (ps := ["_law_rng", "_law_quantity"]) fun _ _ _ _ _ _ us hl => match us, hl with | [_, _], _ => rfl
  have F58 := fun_mk (st := s_l_term) l58 c58 k58
  have b58 := F58.binds (ps := ["_law_rng", "_law_names_here", "_law_deep"]) fun _ _ _ _ _ _ us hl => match us, hl with | [_, _, _], _ => rfl
  have F59 := fun_mk (st := s_l_many_lines) l59 c59 k59
  have b59 := F59.binds (ps := ["_law_term_here"]) fun _ _ _ _ _ _ us hl => match us, hl with | [_], _ => rfl
  have F60 := fun_mk (st := s_l_narrow_term) l60 c60 k60
  have b60 := F60.binds (ps := ["_law_rng", "_law_names_here", "_law_deep"]) fun _ _ _ _ _ _ us hl => match us, hl with | [_, _, _], _ => rfl
  have F61 := fun_mk (st := s_l_rows) l61 c61 k61
  have b61 := F61.binds (ps := ["_law_rng", "_law_limit", "_law_deep"]) fun _ _ _ _ _ _ us hl => match us, hl with | [_, _, _], _ => rfl
  have F62 := fun_mk (st := s_l_initial_times) l62 c62 k62
  have b62 := F62.binds (ps := ["_law_rng", "_law_rows_here"]) fun _ _ _ _ _ _ us hl => match us, hl with | [_, _], _ => rfl
  have F63 := fun_mk (st := s_l_unused_name) l63 c63 k63
  have b63 := F63.binds (ps := ["_law_names_here"]) fun _ _ _ _ _ _ us hl => match us, hl with | [_], _ => rfl
  have F64 := fun_mk (st := s_l_wide_term) l64 c64 k64
  have b64 := F64.binds (ps := ["_law_rng", "_law_names_here"]) fun _ _ _ _ _ _ us hl => match us, hl with | [_, _], _ => rfl
  have F65 := fun_mk (st := s_p_law) l65 c65 k65
  have FC : LmN.FunC K "law" "law" s_p_law fa (PySem.W.fnOf "law" "law" (defArgs s_p_law) (defBody s_p_law) (defScope s_p_law) .none kV65 dc65 pm65 an65 (.ref cL) ct65) cL := ⟨⟨_, _, _, _, _, _, _, _, rfl, l65, c65⟩⟩
  have b65 := F65.binds (ps := ["_law_script"]) fun _ _ _ _ _ _ us hl => match us, hl with | [_], _ => rfl
  let A : Ad := { f_i_GaitError := f0, fd_i_GaitError := PySem.W.fnOf "__init__" "GaitError.__init__" (defArgs s_i_GaitError) (defBody s_i_GaitError) (defScope s_i_GaitError) (.ref dT0) kV0 dc0 pm0 an0 cd0 ct0, f_i_NotFound := f1, fd_i_NotFound := PySem.W.fnOf "__init__" "NotFound.__init__" (defArgs s_i_NotFound) (defBody s_i_NotFound) (defScope s_i_NotFound) (.ref dT1) kV1 dc1 pm1 an1 cd1 ct1, f_i_InvalidTerm := f2, fd_i_InvalidTerm := PySem.W.fnOf "__init__" "InvalidTerm.__init__" (defArgs s_i_InvalidTerm) (defBody s_i_InvalidTerm) (defScope s_i_InvalidTerm) .none kV2 dc2 pm2 an2 cd2 ct2, f_i_InvalidName := f3, fd_i_InvalidName := PySem.W.fnOf "__init__" "InvalidName.__init__" (defArgs s_i_InvalidName) (defBody s_i_InvalidName) (defScope s_i_InvalidName) .none kV3 dc3 pm3 an3 cd3 ct3, f_i_InvalidCount := f4, fd_i_InvalidCount := PySem.W.fnOf "__init__" "InvalidCount.__init__" (defArgs s_i_InvalidCount) (defBody s_i_InvalidCount) (defScope s_i_InvalidCount) .none kV4 dc4 pm4 an4 cd4 ct4, f_i_InvalidTimes := f5, fd_i_InvalidTimes := PySem.W.fnOf "__init__" "InvalidTimes.__init__" (defArgs s_i_InvalidTimes) (defBody s_i_InvalidTimes) (defScope s_i_InvalidTimes) .none kV5 dc5 pm5 an5 cd5 ct5, f_i_InvalidRound := f6, fd_i_InvalidRound := PySem.W.fnOf "__init__" "InvalidRound.__init__" (defArgs s_i_InvalidRound) (defBody s_i_InvalidRound) (defScope s_i_InvalidRound) .none kV6 dc6 pm6 an6 cd6 ct6, f_i_DuplicateName := f7, fd_i_DuplicateName := PySem.W.fnOf "__init__" "DuplicateName.__init__" (defArgs s_i_DuplicateName) (defBody s_i_DuplicateName) (defScope s_i_DuplicateName) .none kV7 dc7 pm7 an7 cd7 ct7, f_i_UnknownEvent := f8, fd_i_UnknownEvent := PySem.W.fnOf "__init__" "UnknownEvent.__init__" (defArgs s_i_UnknownEvent) (defBody s_i_UnknownEvent) (defScope s_i_UnknownEvent) .none kV8 dc8 pm8 an8 cd8 ct8, f_i_ZeroDenominator := f9, fd_i_ZeroDenominator := PySem.W.fnOf "__init__" "ZeroDenominator.__init__" (defArgs s_i_ZeroDenominator) (defBody s_i_ZeroDenominator) (defScope s_i_ZeroDenominator) .none kV9 dc9 pm9 an9 cd9 ct9, f_p_greatest_divisor := f10, fd_p_greatest_divisor := PySem.W.fnOf "greatest_divisor" "greatest_divisor" (defArgs s_p_greatest_divisor) (defBody s_p_greatest_divisor) (defScope s_p_greatest_divisor) .none kV10 dc10 pm10 an10 cd10 ct10, f_p_least_multiple := f11, fd_p_least_multiple := PySem.W.fnOf "least_multiple" "least_multiple" (defArgs s_p_least_multiple) (defBody s_p_least_multiple) (defScope s_p_least_multiple) .none kV11 dc11 pm11 an11 cd11 ct11, f_p_common_denominator := f12, fd_p_common_denominator := PySem.W.fnOf "common_denominator" "common_denominator" (defArgs s_p_common_denominator) (defBody s_p_common_denominator) (defScope s_p_common_denominator) .none kV12 dc12 pm12 an12 cd12 ct12, f_p_fraction := f13, fd_p_fraction := PySem.W.fnOf "fraction" "fraction" (defArgs s_p_fraction) (defBody s_p_fraction) (defScope s_p_fraction) (.ref dT13) kV13 dc13 pm13 an13 cd13 ct13, f_p_add := f14, fd_p_add := PySem.W.fnOf "add" "add" (defArgs s_p_add) (defBody s_p_add) (defScope s_p_add) .none kV14 dc14 pm14 an14 cd14 ct14, f_p_subtract := f15, fd_p_subtract := PySem.W.fnOf "subtract" "subtract" (defArgs s_p_subtract) (defBody s_p_subtract) (defScope s_p_subtract) .none kV15 dc15 pm15 an15 cd15 ct15, f_p_multiply := f16, fd_p_multiply := PySem.W.fnOf "multiply" "multiply" (defArgs s_p_multiply) (defBody s_p_multiply) (defScope s_p_multiply) .none kV16 dc16 pm16 an16 cd16 ct16, f_p_divide := f17, fd_p_divide := PySem.W.fnOf "divide" "divide" (defArgs s_p_divide) (defBody s_p_divide) (defScope s_p_divide) .none kV17 dc17 pm17 an17 cd17 ct17, f_p_is_less := f18, fd_p_is_less := PySem.W.fnOf "is_less" "is_less" (defArgs s_p_is_less) (defBody s_p_is_less) (defScope s_p_is_less) .none kV18 dc18 pm18 an18 cd18 ct18, f_p_total := f19, fd_p_total := PySem.W.fnOf "total" "total" (defArgs s_p_total) (defBody s_p_total) (defScope s_p_total) .none (.ref kD19) dc19 pm19 an19 cd19 ct19, f_p_index_of_max := f20, fd_p_index_of_max := PySem.W.fnOf "index_of_max" "index_of_max" (defArgs s_p_index_of_max) (defBody s_p_index_of_max) (defScope s_p_index_of_max) .none kV20 dc20 pm20 an20 cd20 ct20, f_p_ceiling := f21, fd_p_ceiling := PySem.W.fnOf "ceiling" "ceiling" (defArgs s_p_ceiling) (defBody s_p_ceiling) (defScope s_p_ceiling) .none kV21 dc21 pm21 an21 cd21 ct21, f_p_is_valid_name := f22, fd_p_is_valid_name := PySem.W.fnOf "is_valid_name" "is_valid_name" (defArgs s_p_is_valid_name) (defBody s_p_is_valid_name) (defScope s_p_is_valid_name) .none kV22 dc22 pm22 an22 cd22 ct22, f_p_is_number := f23, fd_p_is_number := PySem.W.fnOf "is_number" "is_number" (defArgs s_p_is_number) (defBody s_p_is_number) (defScope s_p_is_number) .none kV23 dc23 pm23 an23 cd23 ct23, f_p_is_term_fraction := f24, fd_p_is_term_fraction := PySem.W.fnOf "is_term_fraction" "is_term_fraction" (defArgs s_p_is_term_fraction) (defBody s_p_is_term_fraction) (defScope s_p_is_term_fraction) .none kV24 dc24 pm24 an24 cd24 ct24, f_p_is_weighted := f25, fd_p_is_weighted := PySem.W.fnOf "is_weighted" "is_weighted" (defArgs s_p_is_weighted) (defBody s_p_is_weighted) (defScope s_p_is_weighted) .none kV25 dc25 pm25 an25 cd25 ct25, f_p_is_mixture := f26, fd_p_is_mixture := PySem.W.fnOf "is_mixture" "is_mixture" (defArgs s_p_is_mixture) (defBody s_p_is_mixture) (defScope s_p_is_mixture) .none kV26 dc26 pm26 an26 cd26 ct26, f_p_has_term_form := f27, fd_p_has_term_form := PySem.W.fnOf "has_term_form" "has_term_form" (defArgs s_p_has_term_form) (defBody s_p_has_term_form) (defScope s_p_has_term_form) .none kV27 dc27 pm27 an27 cd27 ct27, f_p_subterms := f28, fd_p_subterms := PySem.W.fnOf "subterms" "subterms" (defArgs s_p_subterms) (defBody s_p_subterms) (defScope s_p_subterms) .none kV28 dc28 pm28 an28 cd28 ct28, f_p_is_valid_term := f29, fd_p_is_valid_term := PySem.W.fnOf "is_valid_term" "is_valid_term" (defArgs s_p_is_valid_term) (defBody s_p_is_valid_term) (defScope s_p_is_valid_term) .none kV29 dc29 pm29 an29 cd29 ct29, f_p_event_names := f30, fd_p_event_names := PySem.W.fnOf "event_names" "event_names" (defArgs s_p_event_names) (defBody s_p_event_names) (defScope s_p_event_names) .none kV30 dc30 pm30 an30 cd30 ct30, f_p_delays_in := f31, fd_p_delays_in := PySem.W.fnOf "delays_in" "delays_in" (defArgs s_p_delays_in) (defBody s_p_delays_in) (defScope s_p_delays_in) .none kV31 dc31 pm31 an31 cd31 ct31, f_p_check_names := f32, fd_p_check_names := PySem.W.fnOf "check_names" "check_names" (defArgs s_p_check_names) (defBody s_p_check_names) (defScope s_p_check_names) .none kV32 dc32 pm32 an32 cd32 ct32, f_p_weight_scale := f33, fd_p_weight_scale := PySem.W.fnOf "weight_scale" "weight_scale" (defArgs s_p_weight_scale) (defBody s_p_weight_scale) (defScope s_p_weight_scale) .none kV33 dc33 pm33 an33 cd33 ct33, f_p_rate_of := f34, fd_p_rate_of := PySem.W.fnOf "rate_of" "rate_of" (defArgs s_p_rate_of) (defBody s_p_rate_of) (defScope s_p_rate_of) .none kV34 dc34 pm34 an34 cd34 ct34, f_p_is_regime := f35, fd_p_is_regime := PySem.W.fnOf "is_regime" "is_regime" (defArgs s_p_is_regime) (defBody s_p_is_regime) (defScope s_p_is_regime) .none kV35 dc35 pm35 an35 cd35 ct35, f_p_check_row_names := f36, fd_p_check_row_names := PySem.W.fnOf "check_row_names" "check_row_names" (defArgs s_p_check_row_names) (defBody s_p_check_row_names) (defScope s_p_check_row_names) .none kV36 dc36 pm36 an36 cd36 ct36, f_p_check_row_terms := f37, fd_p_check_row_terms := PySem.W.fnOf "check_row_terms" "check_row_terms" (defArgs s_p_check_row_terms) (defBody s_p_check_row_terms) (defScope s_p_check_row_terms) .none kV37 dc37 pm37 an37 cd37 ct37, f_o_EventSystem_init := f38, fd_o_EventSystem_init := PySem.W.fnOf "__init__" "EventSystem.__init__" (defArgs s_o_EventSystem_init) (defBody s_o_EventSystem_init) (defScope s_o_EventSystem_init) .none kV38 dc38 pm38 an38 cd38 ct38, f_o_EventSystem_rows := f39, fd_o_EventSystem_rows := PySem.W.fnOf "rows" "EventSystem.rows" (defArgs s_o_EventSystem_rows) (defBody s_o_EventSystem_rows) (defScope s_o_EventSystem_rows) .none kV39 dc39 pm39 an39 cd39 ct39, f_o_EventSystem_term := f40, fd_o_EventSystem_term := PySem.W.fnOf "term" "EventSystem.term" (defArgs s_o_EventSystem_term) (defBody s_o_EventSystem_term) (defScope s_o_EventSystem_term) .none kV40 dc40 pm40 an40 cd40 ct40, f_o_EventSystem_len := f41, fd_o_EventSystem_len := PySem.W.fnOf "__len__" "EventSystem.__len__" (defArgs s_o_EventSystem_len) (defBody s_o_EventSystem_len) (defScope s_o_EventSystem_len) .none kV41 dc41 pm41 an41 cd41 ct41, f_l_source := f42, fd_l_source := PySem.W.fnOf "_law_source" "_law_source" (defArgs s_l_source) (defBody s_l_source) (defScope s_l_source) .none kV42 dc42 pm42 an42 cd42 ct42, f_l_draw := f43, fd_l_draw := PySem.W.fnOf "_law_draw" "_law_draw" (defArgs s_l_draw) (defBody s_l_draw) (defScope s_l_draw) .none kV43 dc43 pm43 an43 cd43 ct43, f_l_choice := f44, fd_l_choice := PySem.W.fnOf "_law_choice" "_law_choice" (defArgs s_l_choice) (defBody s_l_choice) (defScope s_l_choice) .none kV44 dc44 pm44 an44 cd44 ct44, f_l_shuffled := f45, fd_l_shuffled := PySem.W.fnOf "_law_shuffled" "_law_shuffled" (defArgs s_l_shuffled) (defBody s_l_shuffled) (defScope s_l_shuffled) .none kV45 dc45 pm45 an45 cd45 ct45, f_l_equal := f46, fd_l_equal := PySem.W.fnOf "_law_equal" "_law_equal" (defArgs s_l_equal) (defBody s_l_equal) (defScope s_l_equal) .none kV46 dc46 pm46 an46 cd46 ct46, f_l_error_field := f47, fd_l_error_field := PySem.W.fnOf "_law_error_field" "_law_error_field" (defArgs s_l_error_field) (defBody s_l_error_field) (defScope s_l_error_field) .none kV47 dc47 pm47 an47 cd47 ct47, f_l_outcome := f48, fd_l_outcome := PySem.W.fnOf "_law_outcome" "_law_outcome" (defArgs s_l_outcome) (defBody s_l_outcome) (defScope s_l_outcome) .none kV48 dc48 pm48 an48 cd48 ct48, f_l_error := f49, fd_l_error := PySem.W.fnOf "_law_error" "_law_error" (defArgs s_l_error) (defBody s_l_error) (defScope s_l_error) .none kV49 dc49 pm49 an49 cd49 ct49, f_l_reduce := f50, fd_l_reduce := PySem.W.fnOf "_law_reduce" "_law_reduce" (defArgs s_l_reduce) (defBody s_l_reduce) (defScope s_l_reduce) .none kV50 dc50 pm50 an50 cd50 ct50, f_l_small := f51, fd_l_small := PySem.W.fnOf "_law_small" "_law_small" (defArgs s_l_small) (defBody s_l_small) (defScope s_l_small) .none kV51 dc51 pm51 an51 cd51 ct51, f_l_letters := f52, fd_l_letters := PySem.W.fnOf "_law_letters" "_law_letters" (defArgs s_l_letters) (defBody s_l_letters) (defScope s_l_letters) .none kV52 dc52 pm52 an52 cd52 ct52, f_l_is_name := f53, fd_l_is_name := PySem.W.fnOf "_law_is_name" "_law_is_name" (defArgs s_l_is_name) (defBody s_l_is_name) (defScope s_l_is_name) .none kV53 dc53 pm53 an53 cd53 ct53, f_l_plain := f54, fd_l_plain := PySem.W.fnOf "_law_plain" "_law_plain" (defArgs s_l_plain) (defBody s_l_plain) (defScope s_l_plain) .none kV54 dc54 pm54 an54 cd54 ct54, f_l_names := f55, fd_l_names := PySem.W.fnOf "_law_names" "_law_names" (defArgs s_l_names) (defBody s_l_names) (defScope s_l_names) .none kV55 dc55 pm55 an55 cd55 ct55, f_l_operands := f56, fd_l_operands := PySem.W.fnOf "_law_operands" "_law_operands" (defArgs s_l_operands) (defBody s_l_operands) (defScope s_l_operands) .none kV56 dc56 pm56 an56 cd56 ct56, f_l_shares := f57, fd_l_shares := PySem.W.fnOf "_law_shares" "_law_shares" (defArgs s_l_shares) (defBody s_l_shares) (defScope s_l_shares) .none kV57 dc57 pm57 an57 cd57 ct57, f_l_term := f58, fd_l_term := PySem.W.fnOf "_law_term" "_law_term" (defArgs s_l_term) (defBody s_l_term) (defScope s_l_term) .none kV58 dc58 pm58 an58 cd58 ct58, f_l_many_lines := f59, fd_l_many_lines := PySem.W.fnOf "_law_many_lines" "_law_many_lines" (defArgs s_l_many_lines) (defBody s_l_many_lines) (defScope s_l_many_lines) .none kV59 dc59 pm59 an59 cd59 ct59, f_l_narrow_term := f60, fd_l_narrow_term := PySem.W.fnOf "_law_narrow_term" "_law_narrow_term" (defArgs s_l_narrow_term) (defBody s_l_narrow_term) (defScope s_l_narrow_term) .none kV60 dc60 pm60 an60 cd60 ct60, f_l_rows := f61, fd_l_rows := PySem.W.fnOf "_law_rows" "_law_rows" (defArgs s_l_rows) (defBody s_l_rows) (defScope s_l_rows) .none kV61 dc61 pm61 an61 cd61 ct61, f_l_initial_times := f62, fd_l_initial_times := PySem.W.fnOf "_law_initial_times" "_law_initial_times" (defArgs s_l_initial_times) (defBody s_l_initial_times) (defScope s_l_initial_times) .none kV62 dc62 pm62 an62 cd62 ct62, f_l_unused_name := f63, fd_l_unused_name := PySem.W.fnOf "_law_unused_name" "_law_unused_name" (defArgs s_l_unused_name) (defBody s_l_unused_name) (defScope s_l_unused_name) .none kV63 dc63 pm63 an63 cd63 ct63, f_l_wide_term := f64, fd_l_wide_term := PySem.W.fnOf "_law_wide_term" "_law_wide_term" (defArgs s_l_wide_term) (defBody s_l_wide_term) (defScope s_l_wide_term) .none kV64 dc64 pm64 an64 cd64 ct64, f_p_law := fa, fd_p_law := PySem.W.fnOf "law" "law" (defArgs s_p_law) (defBody s_p_law) (defScope s_p_law) .none kV65 dc65 pm65 an65 (.ref cL) ct65, o_ZERO := o_ZERO, o_KEYWORDS := o_KEYWORDS, tk_MAX_NAME := tk_MAX_NAME, tk_MAX_SIDE := tk_MAX_SIDE, tk_MAX_OPERANDS := tk_MAX_OPERANDS, tk_MAX_SIZE := tk_MAX_SIZE, tk_MAX_DEPTH := tk_MAX_DEPTH, tk_MAX_EVENTS := tk_MAX_EVENTS, cL := cL, tL := tL, C_GaitError := C_GaitError, C_NotFound := C_NotFound, C_ZeroDenominator := C_ZeroDenominator, C_EmptyHistory := C_EmptyHistory, C_UnknownEvent := C_UnknownEvent, C_InvalidTimes := C_InvalidTimes, C_InvalidRound := C_InvalidRound, C_InvalidName := C_InvalidName, C_DuplicateName := C_DuplicateName, C_InvalidTerm := C_InvalidTerm, C_InvalidCount := C_InvalidCount, C_EventSystem := C_EventSystem }
  have T : Txt K mg A := { F_i_GaitError := F0, fc_GaitError := fc0, rd_GaitError := rd_GaitError, sg_GaitError := sg_GaitError, iC_GaitError := a0, tI_GaitError := t0, b_i_GaitError_3 := b0_3, F_i_NotFound := F1, fc_NotFound := fc1, rd_NotFound := rd_NotFound, sg_NotFound := sg_NotFound, iC_NotFound := a1, tI_NotFound := t1, b_i_NotFound_3 := b1_3, F_i_InvalidTerm := F2, iC_InvalidTerm := a2, tI_InvalidTerm := t2, b_i_InvalidTerm := b2, F_i_InvalidName := F3, iC_InvalidName := a3, tI_InvalidName := t3, b_i_InvalidName := b3, F_i_InvalidCount := F4, iC_InvalidCount := a4, tI_InvalidCount := t4, b_i_InvalidCount := b4, F_i_InvalidTimes := F5, iC_InvalidTimes := a5, tI_InvalidTimes := t5, b_i_InvalidTimes := b5, F_i_InvalidRound := F6, iC_InvalidRound := a6, tI_InvalidRound := t6, b_i_InvalidRound := b6, F_i_DuplicateName := F7, iC_DuplicateName := a7, tI_DuplicateName := t7, b_i_DuplicateName := b7, F_i_UnknownEvent := F8, iC_UnknownEvent := a8, tI_UnknownEvent := t8, b_i_UnknownEvent := b8, F_i_ZeroDenominator := F9, iC_ZeroDenominator := a9, tI_ZeroDenominator := t9, b_i_ZeroDenominator := b9, F_p_greatest_divisor := F10, g_p_greatest_divisor := PySem.W.mg_of X G a10, b_p_greatest_divisor := b10, F_p_least_multiple := F11, g_p_least_multiple := PySem.W.mg_of X G a11, b_p_least_multiple := b11, F_p_common_denominator := F12, g_p_common_denominator := PySem.W.mg_of X G a12, b_p_common_denominator := b12, F_p_fraction := F13, g_p_fraction := PySem.W.mg_of X G a13, b_p_fraction_2 := b13_2, F_p_add := F14, g_p_add := PySem.W.mg_of X G a14, b_p_add := b14, F_p_subtract := F15, g_p_subtract := PySem.W.mg_of X G a15, b_p_subtract := b15, F_p_multiply := F16, g_p_multiply := PySem.W.mg_of X G a16, b_p_multiply := b16, F_p_divide := F17, g_p_divide := PySem.W.mg_of X G a17, b_p_divide := b17, F_p_is_less := F18, g_p_is_less := PySem.W.mg_of X G a18, b_p_is_less := b18, F_p_total := F19, g_p_total := PySem.W.mg_of X G a19, b_p_total_1 := b19_1, F_p_index_of_max := F20, g_p_index_of_max := PySem.W.mg_of X G a20, b_p_index_of_max := b20, F_p_ceiling := F21, g_p_ceiling := PySem.W.mg_of X G a21, b_p_ceiling := b21, F_p_is_valid_name := F22, g_p_is_valid_name := PySem.W.mg_of X G a22, b_p_is_valid_name := b22, F_p_is_number := F23, g_p_is_number := PySem.W.mg_of X G a23, b_p_is_number := b23, F_p_is_term_fraction := F24, g_p_is_term_fraction := PySem.W.mg_of X G a24, b_p_is_term_fraction := b24, F_p_is_weighted := F25, g_p_is_weighted := PySem.W.mg_of X G a25, b_p_is_weighted := b25, F_p_is_mixture := F26, g_p_is_mixture := PySem.W.mg_of X G a26, b_p_is_mixture := b26, F_p_has_term_form := F27, g_p_has_term_form := PySem.W.mg_of X G a27, b_p_has_term_form := b27, F_p_subterms := F28, g_p_subterms := PySem.W.mg_of X G a28, b_p_subterms := b28, F_p_is_valid_term := F29, g_p_is_valid_term := PySem.W.mg_of X G a29, b_p_is_valid_term := b29, F_p_event_names := F30, g_p_event_names := PySem.W.mg_of X G a30, b_p_event_names := b30, F_p_delays_in := F31, g_p_delays_in := PySem.W.mg_of X G a31, b_p_delays_in := b31, F_p_check_names := F32, g_p_check_names := PySem.W.mg_of X G a32, b_p_check_names := b32, F_p_weight_scale := F33, g_p_weight_scale := PySem.W.mg_of X G a33, b_p_weight_scale := b33, F_p_rate_of := F34, g_p_rate_of := PySem.W.mg_of X G a34, b_p_rate_of := b34, F_p_is_regime := F35, g_p_is_regime := PySem.W.mg_of X G a35, b_p_is_regime := b35, F_p_check_row_names := F36, g_p_check_row_names := PySem.W.mg_of X G a36, b_p_check_row_names := b36, F_p_check_row_terms := F37, g_p_check_row_terms := PySem.W.mg_of X G a37, b_p_check_row_terms := b37, F_o_EventSystem_init := F38, me_o_EventSystem_init := ⟨a38, i38, k38⟩, mk_EventSystem := ⟨om_EventSystem, a38, i38, ok_EventSystem⟩, b_o_EventSystem_init := b38, F_o_EventSystem_rows := F39, me_o_EventSystem_rows := ⟨a39, i39, k39⟩, b_o_EventSystem_rows := b39, F_o_EventSystem_term := F40, me_o_EventSystem_term := ⟨a40, i40, k40⟩, b_o_EventSystem_term := b40, F_o_EventSystem_len := F41, me_o_EventSystem_len := ⟨a41, i41, k41⟩, b_o_EventSystem_len := b41, F_l_source := F42, g_l_source := PySem.W.mg_of X G a42, b_l_source := b42, F_l_draw := F43, g_l_draw := PySem.W.mg_of X G a43, b_l_draw := b43, F_l_choice := F44, g_l_choice := PySem.W.mg_of X G a44, b_l_choice := b44, F_l_shuffled := F45, g_l_shuffled := PySem.W.mg_of X G a45, b_l_shuffled := b45, F_l_equal := F46, g_l_equal := PySem.W.mg_of X G a46, b_l_equal := b46, F_l_error_field := F47, g_l_error_field := PySem.W.mg_of X G a47, b_l_error_field := b47, F_l_outcome := F48, g_l_outcome := PySem.W.mg_of X G a48, b_l_outcome := b48, F_l_error := F49, g_l_error := PySem.W.mg_of X G a49, b_l_error := b49, F_l_reduce := F50, g_l_reduce := PySem.W.mg_of X G a50, b_l_reduce := b50, F_l_small := F51, g_l_small := PySem.W.mg_of X G a51, b_l_small := b51, F_l_letters := F52, g_l_letters := PySem.W.mg_of X G a52, b_l_letters := b52, F_l_is_name := F53, g_l_is_name := PySem.W.mg_of X G a53, b_l_is_name := b53, F_l_plain := F54, g_l_plain := PySem.W.mg_of X G a54, b_l_plain := b54, F_l_names := F55, g_l_names := PySem.W.mg_of X G a55, b_l_names := b55, F_l_operands := F56, g_l_operands := PySem.W.mg_of X G a56, b_l_operands := b56, F_l_shares := F57, g_l_shares := PySem.W.mg_of X G a57, b_l_shares := b57, F_l_term := F58, g_l_term := PySem.W.mg_of X G a58, b_l_term := b58, F_l_many_lines := F59, g_l_many_lines := PySem.W.mg_of X G a59, b_l_many_lines := b59, F_l_narrow_term := F60, g_l_narrow_term := PySem.W.mg_of X G a60, b_l_narrow_term := b60, F_l_rows := F61, g_l_rows := PySem.W.mg_of X G a61, b_l_rows := b61, F_l_initial_times := F62, g_l_initial_times := PySem.W.mg_of X G a62, b_l_initial_times := b62, F_l_unused_name := F63, g_l_unused_name := PySem.W.mg_of X G a63, b_l_unused_name := b63, F_l_wide_term := F64, g_l_wide_term := PySem.W.mg_of X G a64, b_l_wide_term := b64, F_p_law := FC, g_p_law := PySem.W.mg_of X G a65, gC_GaitError := PySem.W.mg_of X G gc_GaitError, gC_NotFound := PySem.W.mg_of X G gc_NotFound, gC_ZeroDenominator := PySem.W.mg_of X G gc_ZeroDenominator, gC_EmptyHistory := PySem.W.mg_of X G gc_EmptyHistory, gC_UnknownEvent := PySem.W.mg_of X G gc_UnknownEvent, gC_InvalidTimes := PySem.W.mg_of X G gc_InvalidTimes, gC_InvalidRound := PySem.W.mg_of X G gc_InvalidRound, gC_InvalidName := PySem.W.mg_of X G gc_InvalidName, gC_DuplicateName := PySem.W.mg_of X G gc_DuplicateName, gC_InvalidTerm := PySem.W.mg_of X G gc_InvalidTerm, gC_InvalidCount := PySem.W.mg_of X G gc_InvalidCount, gC_EventSystem := PySem.W.mg_of X G gc_EventSystem, cl_EventSystem := ⟨op_EventSystem, oh_EventSystem, oo_EventSystem, os_EventSystem⟩, na_EventSystem_pairs := na_EventSystem_pairs, oC_ZeroDenominator := ⟨PySem.F.excBase_ZeroDivisionError, PySem.F.store_ZeroDivisionError, x1_ZeroDenominator, x2_ZeroDenominator, x3_ZeroDenominator, x4_ZeroDenominator, x5_ZeroDenominator, x6_ZeroDenominator, x7_ZeroDenominator⟩, xC_ZeroDenominator := ⟨x8_ZeroDenominator, x9_ZeroDenominator, x5_ZeroDenominator, x3_ZeroDenominator⟩, no_ZeroDenominator_tag := no_ZeroDenominator_tag, em_ZeroDenominator_GaitError := em2 (PySem.W.exm_ref y1_GaitError y2_GaitError y3_GaitError s_ZeroDenominator_GaitError) (PySem.W.exm_ref y1_NotFound y2_NotFound y3_NotFound s_ZeroDenominator_NotFound), em_ZeroDenominator_ZeroDenominator := em2 (PySem.W.exm_ref y1_ZeroDenominator y2_ZeroDenominator y3_ZeroDenominator s_ZeroDenominator_ZeroDenominator) (PySem.W.exm_ref y1_EmptyHistory y2_EmptyHistory y3_EmptyHistory s_ZeroDenominator_EmptyHistory), oC_UnknownEvent := ⟨PySem.F.excBase_LookupError, PySem.F.store_LookupError, x1_UnknownEvent, x2_UnknownEvent, x3_UnknownEvent, x4_UnknownEvent, x5_UnknownEvent, x6_UnknownEvent, x7_UnknownEvent⟩, xC_UnknownEvent := ⟨x8_UnknownEvent, x9_UnknownEvent, x5_UnknownEvent, x3_UnknownEvent⟩, no_UnknownEvent_tag := no_UnknownEvent_tag, no_UnknownEvent_name := no_UnknownEvent_name, em_UnknownEvent_GaitError := em2 (PySem.W.exm_ref y1_GaitError y2_GaitError y3_GaitError s_UnknownEvent_GaitError) (PySem.W.exm_ref y1_NotFound y2_NotFound y3_NotFound s_UnknownEvent_NotFound), em_UnknownEvent_ZeroDenominator := em2 (PySem.W.exm_ref y1_ZeroDenominator y2_ZeroDenominator y3_ZeroDenominator s_UnknownEvent_ZeroDenominator) (PySem.W.exm_ref y1_EmptyHistory y2_EmptyHistory y3_EmptyHistory s_UnknownEvent_EmptyHistory), oC_InvalidTimes := ⟨PySem.F.excBase_ValueError, PySem.F.store_ValueError, x1_InvalidTimes, x2_InvalidTimes, x3_InvalidTimes, x4_InvalidTimes, x5_InvalidTimes, x6_InvalidTimes, x7_InvalidTimes⟩, xC_InvalidTimes := ⟨x8_InvalidTimes, x9_InvalidTimes, x5_InvalidTimes, x3_InvalidTimes⟩, no_InvalidTimes_tag := no_InvalidTimes_tag, em_InvalidTimes_GaitError := em2 (PySem.W.exm_ref y1_GaitError y2_GaitError y3_GaitError s_InvalidTimes_GaitError) (PySem.W.exm_ref y1_NotFound y2_NotFound y3_NotFound s_InvalidTimes_NotFound), em_InvalidTimes_ZeroDenominator := em2 (PySem.W.exm_ref y1_ZeroDenominator y2_ZeroDenominator y3_ZeroDenominator s_InvalidTimes_ZeroDenominator) (PySem.W.exm_ref y1_EmptyHistory y2_EmptyHistory y3_EmptyHistory s_InvalidTimes_EmptyHistory), oC_InvalidRound := ⟨PySem.F.excBase_ValueError, PySem.F.store_ValueError, x1_InvalidRound, x2_InvalidRound, x3_InvalidRound, x4_InvalidRound, x5_InvalidRound, x6_InvalidRound, x7_InvalidRound⟩, xC_InvalidRound := ⟨x8_InvalidRound, x9_InvalidRound, x5_InvalidRound, x3_InvalidRound⟩, no_InvalidRound_tag := no_InvalidRound_tag, no_InvalidRound_number := no_InvalidRound_number, em_InvalidRound_GaitError := em2 (PySem.W.exm_ref y1_GaitError y2_GaitError y3_GaitError s_InvalidRound_GaitError) (PySem.W.exm_ref y1_NotFound y2_NotFound y3_NotFound s_InvalidRound_NotFound), em_InvalidRound_ZeroDenominator := em2 (PySem.W.exm_ref y1_ZeroDenominator y2_ZeroDenominator y3_ZeroDenominator s_InvalidRound_ZeroDenominator) (PySem.W.exm_ref y1_EmptyHistory y2_EmptyHistory y3_EmptyHistory s_InvalidRound_EmptyHistory), oC_InvalidName := ⟨PySem.F.excBase_ValueError, PySem.F.store_ValueError, x1_InvalidName, x2_InvalidName, x3_InvalidName, x4_InvalidName, x5_InvalidName, x6_InvalidName, x7_InvalidName⟩, xC_InvalidName := ⟨x8_InvalidName, x9_InvalidName, x5_InvalidName, x3_InvalidName⟩, no_InvalidName_tag := no_InvalidName_tag, no_InvalidName_name := no_InvalidName_name, em_InvalidName_GaitError := em2 (PySem.W.exm_ref y1_GaitError y2_GaitError y3_GaitError s_InvalidName_GaitError) (PySem.W.exm_ref y1_NotFound y2_NotFound y3_NotFound s_InvalidName_NotFound), em_InvalidName_ZeroDenominator := em2 (PySem.W.exm_ref y1_ZeroDenominator y2_ZeroDenominator y3_ZeroDenominator s_InvalidName_ZeroDenominator) (PySem.W.exm_ref y1_EmptyHistory y2_EmptyHistory y3_EmptyHistory s_InvalidName_EmptyHistory), oC_DuplicateName := ⟨PySem.F.excBase_ValueError, PySem.F.store_ValueError, x1_DuplicateName, x2_DuplicateName, x3_DuplicateName, x4_DuplicateName, x5_DuplicateName, x6_DuplicateName, x7_DuplicateName⟩, xC_DuplicateName := ⟨x8_DuplicateName, x9_DuplicateName, x5_DuplicateName, x3_DuplicateName⟩, no_DuplicateName_tag := no_DuplicateName_tag, no_DuplicateName_name := no_DuplicateName_name, em_DuplicateName_GaitError := em2 (PySem.W.exm_ref y1_GaitError y2_GaitError y3_GaitError s_DuplicateName_GaitError) (PySem.W.exm_ref y1_NotFound y2_NotFound y3_NotFound s_DuplicateName_NotFound), em_DuplicateName_ZeroDenominator := em2 (PySem.W.exm_ref y1_ZeroDenominator y2_ZeroDenominator y3_ZeroDenominator s_DuplicateName_ZeroDenominator) (PySem.W.exm_ref y1_EmptyHistory y2_EmptyHistory y3_EmptyHistory s_DuplicateName_EmptyHistory), oC_InvalidTerm := ⟨PySem.F.excBase_ValueError, PySem.F.store_ValueError, x1_InvalidTerm, x2_InvalidTerm, x3_InvalidTerm, x4_InvalidTerm, x5_InvalidTerm, x6_InvalidTerm, x7_InvalidTerm⟩, xC_InvalidTerm := ⟨x8_InvalidTerm, x9_InvalidTerm, x5_InvalidTerm, x3_InvalidTerm⟩, no_InvalidTerm_tag := no_InvalidTerm_tag, no_InvalidTerm_name := no_InvalidTerm_name, em_InvalidTerm_GaitError := em2 (PySem.W.exm_ref y1_GaitError y2_GaitError y3_GaitError s_InvalidTerm_GaitError) (PySem.W.exm_ref y1_NotFound y2_NotFound y3_NotFound s_InvalidTerm_NotFound), em_InvalidTerm_ZeroDenominator := em2 (PySem.W.exm_ref y1_ZeroDenominator y2_ZeroDenominator y3_ZeroDenominator s_InvalidTerm_ZeroDenominator) (PySem.W.exm_ref y1_EmptyHistory y2_EmptyHistory y3_EmptyHistory s_InvalidTerm_EmptyHistory), oC_InvalidCount := ⟨PySem.F.excBase_ValueError, PySem.F.store_ValueError, x1_InvalidCount, x2_InvalidCount, x3_InvalidCount, x4_InvalidCount, x5_InvalidCount, x6_InvalidCount, x7_InvalidCount⟩, xC_InvalidCount := ⟨x8_InvalidCount, x9_InvalidCount, x5_InvalidCount, x3_InvalidCount⟩, no_InvalidCount_tag := no_InvalidCount_tag, no_InvalidCount_quantity := no_InvalidCount_quantity, em_InvalidCount_GaitError := em2 (PySem.W.exm_ref y1_GaitError y2_GaitError y3_GaitError s_InvalidCount_GaitError) (PySem.W.exm_ref y1_NotFound y2_NotFound y3_NotFound s_InvalidCount_NotFound), em_InvalidCount_ZeroDenominator := em2 (PySem.W.exm_ref y1_ZeroDenominator y2_ZeroDenominator y3_ZeroDenominator s_InvalidCount_ZeroDenominator) (PySem.W.exm_ref y1_EmptyHistory y2_EmptyHistory y3_EmptyHistory s_InvalidCount_EmptyHistory), vV_LookupError := vV_LookupError, vV_ValueError := vV_ValueError, vV_ZeroDivisionError := vV_ZeroDivisionError, n_ValueError := PySem.W.mg_none_of X G z0, n_LookupError := PySem.W.mg_none_of X G z1, n_ZeroDivisionError := PySem.W.mg_none_of X G z2, n_abs := PySem.W.mg_none_of X G z3, n_enumerate := PySem.W.mg_none_of X G z4, n_all := PySem.W.mg_none_of X G z5, n_isinstance := PySem.W.mg_none_of X G z6, n_str := PySem.W.mg_none_of X G z7, n_len := PySem.W.mg_none_of X G z8, n_int := PySem.W.mg_none_of X G z9, n_bool := PySem.W.mg_none_of X G z10, n_tuple := PySem.W.mg_none_of X G z11, n_list := PySem.W.mg_none_of X G z12, n_zip := PySem.W.mg_none_of X G z13, n_set := PySem.W.mg_none_of X G z14, n_range := PySem.W.mg_none_of X G z15, n_max := PySem.W.mg_none_of X G z16, n_sum := PySem.W.mg_none_of X G z17, c_ZERO := PySem.W.mg_of X G q_ZERO, t_ZERO := fun H => .inr ⟨_, _, _, m_ZERO, rfl, rfl, (by show 2 ≤ sizeLine; decide), (.cons ⟨_, rfl⟩ (.cons ⟨_, rfl⟩ .nil))⟩, c_KEYWORDS := PySem.W.mg_of X G q_KEYWORDS, t_KEYWORDS := fun H => .inr ⟨_, _, _, m_KEYWORDS, rfl, rfl, (by show 4 ≤ sizeLine; decide), (.cons ⟨_, rfl⟩ (.cons ⟨_, rfl⟩ (.cons ⟨_, rfl⟩ (.cons ⟨_, rfl⟩ .nil))))⟩, c_MAX_NAME := PySem.W.mg_of X G q_MAX_NAME, c_MAX_SIDE := PySem.W.mg_of X G q_MAX_SIDE, c_MAX_OPERANDS := PySem.W.mg_of X G q_MAX_OPERANDS, c_MAX_SIZE := PySem.W.mg_of X G q_MAX_SIZE, c_MAX_DEPTH := PySem.W.mg_of X G q_MAX_DEPTH, c_MAX_EVENTS := PySem.W.mg_of X G q_MAX_EVENTS }
  refine ⟨PySem.W.fnOf "law" "law" (defArgs s_p_law) (defBody s_p_law) (defScope s_p_law) .none kV65 dc65 pm65 an65 (.ref cL) ct65, [(cL, tL)], sp_p_law K A, fun p hp => ?_, fun p hp => ?_, fun p hp => ?_, fun s v => .of_eq rfl, fun H b ns hl _ hT hS => ⟨b, ns, rfl, hS, hl, (by first | exact hT _ List.mem_cons_self | exact fun p hp => by rw [List.mem_singleton.mp hp]; exact hT _ List.mem_cons_self), fun _ => rfl⟩, fun base _ _ TB => ok_p_law (a := A) T (TB _ List.mem_cons_self)⟩
  · rw [List.mem_singleton.mp hp]; exact OT cL tL _ _ _ _ _ _ l65 rfl rfl lc v11
  · rw [List.mem_singleton.mp hp]; exact nT
  · rw [List.mem_singleton.mp hp]; exact ⟨_, vsc, fl, tfl, fg, tg, inF, tx, tt, X _ _ lc, rfl, rfl, v11, w11, v18, v7, v9, v10, nct⟩
end Gait
-- unused: with a name of their own these states of the program's top get no second writing, which keeps the compiled file small
def PySem.W.Fast.tw6034401939236690582 : Nat := 0
def PySem.W.Fast.tw7555016920224598989 : Nat := 0
def PySem.W.Fast.tw9622291675618314911 : Nat := 0
def PySem.W.Fast.tw12763322878805898473 : Nat := 0
def PySem.W.Fast.tw1729095555007726696 : Nat := 0
def PySem.W.Fast.tw11320882106586680451 : Nat := 0
def PySem.W.Fast.tw5121128147537452279 : Nat := 0
def PySem.W.Fast.tw2818738474847891871 : Nat := 0
def PySem.W.Fast.tw3675281588364469008 : Nat := 0
def PySem.W.Fast.tw6607798556866193139 : Nat := 0
def PySem.W.Fast.tw10249357360834090410 : Nat := 0
open PySem PySem.W PyProof.Rows
set_option maxRecDepth 100000 in
set_option maxHeartbeats 0 in
theorem PySem.Challenge.cw_gaithold_k30_regime_errors_holds : PySem.Challenge.rw_gaithold_k30_regime_errors.Holds := by
  w_on; o_law; k_head; (case hw => w_witness2)
  k_fill
  refine LamX.walk_ofOwn (l := PySem.Challenge.rw_gaithold_k30_regime_errors) (n := 63) (k := 60) (x := "_law_script") (CX := fun _ => L2.CX0) rfl (by decide) rfl ⟨rfl, by decide, by decide⟩ (by decide +kernel) (fun w h Y => by first | exact PySem.W.kIn_of Y | exact PySem.W.km_in_of Y) ?F (fun _ _ _ _ _ h => h)
  case F =>
    intro w mg fa h _ KX G hmg OT
    refine' Gait.all_mk KX G hmg OT ?gc_EventSystem ?op_EventSystem ?oh_EventSystem ?oo_EventSystem ?os_EventSystem ?om_EventSystem ?ok_EventSystem ?na_EventSystem_pairs ?gc_GaitError ?gc_NotFound ?gc_ZeroDenominator ?gc_EmptyHistory ?gc_UnknownEvent ?gc_InvalidTimes ?gc_InvalidRound ?gc_InvalidName ?gc_DuplicateName ?gc_InvalidTerm ?gc_InvalidCount ?x1_ZeroDenominator ?x2_ZeroDenominator ?x3_ZeroDenominator ?x4_ZeroDenominator ?x5_ZeroDenominator ?x6_ZeroDenominator ?x7_ZeroDenominator ?x8_ZeroDenominator ?x9_ZeroDenominator ?no_ZeroDenominator_tag ?s_ZeroDenominator_GaitError ?s_ZeroDenominator_NotFound ?s_ZeroDenominator_ZeroDenominator ?s_ZeroDenominator_EmptyHistory ?x1_UnknownEvent ?x2_UnknownEvent ?x3_UnknownEvent ?x4_UnknownEvent ?x5_UnknownEvent ?x6_UnknownEvent ?x7_UnknownEvent ?x8_UnknownEvent ?x9_UnknownEvent ?no_UnknownEvent_tag ?no_UnknownEvent_name ?s_UnknownEvent_GaitError ?s_UnknownEvent_NotFound ?s_UnknownEvent_ZeroDenominator ?s_UnknownEvent_EmptyHistory ?x1_InvalidTimes ?x2_InvalidTimes ?x3_InvalidTimes ?x4_InvalidTimes ?x5_InvalidTimes ?x6_InvalidTimes ?x7_InvalidTimes ?x8_InvalidTimes ?x9_InvalidTimes ?no_InvalidTimes_tag ?s_InvalidTimes_GaitError ?s_InvalidTimes_NotFound ?s_InvalidTimes_ZeroDenominator ?s_InvalidTimes_EmptyHistory ?x1_InvalidRound ?x2_InvalidRound ?x3_InvalidRound ?x4_InvalidRound ?x5_InvalidRound ?x6_InvalidRound ?x7_InvalidRound ?x8_InvalidRound ?x9_InvalidRound ?no_InvalidRound_tag ?no_InvalidRound_number ?s_InvalidRound_GaitError ?s_InvalidRound_NotFound ?s_InvalidRound_ZeroDenominator ?s_InvalidRound_EmptyHistory ?x1_InvalidName ?x2_InvalidName ?x3_InvalidName ?x4_InvalidName ?x5_InvalidName ?x6_InvalidName ?x7_InvalidName ?x8_InvalidName ?x9_InvalidName ?no_InvalidName_tag ?no_InvalidName_name ?s_InvalidName_GaitError ?s_InvalidName_NotFound ?s_InvalidName_ZeroDenominator ?s_InvalidName_EmptyHistory ?x1_DuplicateName ?x2_DuplicateName ?x3_DuplicateName ?x4_DuplicateName ?x5_DuplicateName ?x6_DuplicateName ?x7_DuplicateName ?x8_DuplicateName ?x9_DuplicateName ?no_DuplicateName_tag ?no_DuplicateName_name ?s_DuplicateName_GaitError ?s_DuplicateName_NotFound ?s_DuplicateName_ZeroDenominator ?s_DuplicateName_EmptyHistory ?x1_InvalidTerm ?x2_InvalidTerm ?x3_InvalidTerm ?x4_InvalidTerm ?x5_InvalidTerm ?x6_InvalidTerm ?x7_InvalidTerm ?x8_InvalidTerm ?x9_InvalidTerm ?no_InvalidTerm_tag ?no_InvalidTerm_name ?s_InvalidTerm_GaitError ?s_InvalidTerm_NotFound ?s_InvalidTerm_ZeroDenominator ?s_InvalidTerm_EmptyHistory ?x1_InvalidCount ?x2_InvalidCount ?x3_InvalidCount ?x4_InvalidCount ?x5_InvalidCount ?x6_InvalidCount ?x7_InvalidCount ?x8_InvalidCount ?x9_InvalidCount ?no_InvalidCount_tag ?no_InvalidCount_quantity ?s_InvalidCount_GaitError ?s_InvalidCount_NotFound ?s_InvalidCount_ZeroDenominator ?s_InvalidCount_EmptyHistory ?y1_GaitError ?y2_GaitError ?y3_GaitError ?y1_NotFound ?y2_NotFound ?y3_NotFound ?y1_ZeroDenominator ?y2_ZeroDenominator ?y3_ZeroDenominator ?y1_EmptyHistory ?y2_EmptyHistory ?y3_EmptyHistory ?rd_GaitError ?sg_GaitError ?rd_NotFound ?sg_NotFound ?vV_LookupError ?vV_ValueError ?vV_ZeroDivisionError ?a0 ?l0 ?c0 ?k0 ?t0 ?fc0 ?d0 ?a1 ?l1 ?c1 ?k1 ?t1 ?fc1 ?d1 ?a2 ?l2 ?c2 ?k2 ?t2 ?a3 ?l3 ?c3 ?k3 ?t3 ?a4 ?l4 ?c4 ?k4 ?t4 ?a5 ?l5 ?c5 ?k5 ?t5 ?a6 ?l6 ?c6 ?k6 ?t6 ?a7 ?l7 ?c7 ?k7 ?t7 ?a8 ?l8 ?c8 ?k8 ?t8 ?a9 ?l9 ?c9 ?k9 ?t9 ?a10 ?l10 ?c10 ?k10 ?a11 ?l11 ?c11 ?k11 ?a12 ?l12 ?c12 ?k12 ?a13 ?l13 ?c13 ?k13 ?d13 ?a14 ?l14 ?c14 ?k14 ?a15 ?l15 ?c15 ?k15 ?a16 ?l16 ?c16 ?k16 ?a17 ?l17 ?c17 ?k17 ?a18 ?l18 ?c18 ?k18 ?a19 ?l19 ?c19 ?k19 ?kd19_0 ?a20 ?l20 ?c20 ?k20 ?a21 ?l21 ?c21 ?k21 ?a22 ?l22 ?c22 ?k22 ?a23 ?l23 ?c23 ?k23 ?a24 ?l24 ?c24 ?k24 ?a25 ?l25 ?c25 ?k25 ?a26 ?l26 ?c26 ?k26 ?a27 ?l27 ?c27 ?k27 ?a28 ?l28 ?c28 ?k28 ?a29 ?l29 ?c29 ?k29 ?a30 ?l30 ?c30 ?k30 ?a31 ?l31 ?c31 ?k31 ?a32 ?l32 ?c32 ?k32 ?a33 ?l33 ?c33 ?k33 ?a34 ?l34 ?c34 ?k34 ?a35 ?l35 ?c35 ?k35 ?a36 ?l36 ?c36 ?k36 ?a37 ?l37 ?c37 ?k37 ?a38 ?l38 ?c38 ?k38 ?i38 ?a39 ?l39 ?c39 ?k39 ?i39 ?a40 ?l40 ?c40 ?k40 ?i40 ?a41 ?l41 ?c41 ?k41 ?i41 ?a42 ?l42 ?c42 ?k42 ?a43 ?l43 ?c43 ?k43 ?a44 ?l44 ?c44 ?k44 ?a45 ?l45 ?c45 ?k45 ?a46 ?l46 ?c46 ?k46 ?a47 ?l47 ?c47 ?k47 ?a48 ?l48 ?c48 ?k48 ?a49 ?l49 ?c49 ?k49 ?a50 ?l50 ?c50 ?k50 ?a51 ?l51 ?c51 ?k51 ?a52 ?l52 ?c52 ?k52 ?a53 ?l53 ?c53 ?k53 ?a54 ?l54 ?c54 ?k54 ?a55 ?l55 ?c55 ?k55 ?a56 ?l56 ?c56 ?k56 ?a57 ?l57 ?c57 ?k57 ?a58 ?l58 ?c58 ?k58 ?a59 ?l59 ?c59 ?k59 ?a60 ?l60 ?c60 ?k60 ?a61 ?l61 ?c61 ?k61 ?a62 ?l62 ?c62 ?k62 ?a63 ?l63 ?c63 ?k63 ?a64 ?l64 ?c64 ?k64 ?a65 ?l65 ?c65 ?k65 ?z0 ?z1 ?z2 ?z3 ?z4 ?z5 ?z6 ?z7 ?z8 ?z9 ?z10 ?z11 ?z12 ?z13 ?z14 ?z15 ?z16 ?z17 ?q_ZERO ?m_ZERO ?q_KEYWORDS ?m_KEYWORDS ?q_MAX_NAME ?q_MAX_SIDE ?q_MAX_OPERANDS ?q_MAX_SIZE ?q_MAX_DEPTH ?q_MAX_EVENTS ?lc ?v11 ?w11 ?v18 ?v7 ?v9 ?v10 ?nct ?nT
    (case gc_EventSystem => k_is); (case op_EventSystem => k_is); (case oh_EventSystem => k_is); (case oo_EventSystem => k_is); (case os_EventSystem => k_is); (case om_EventSystem => k_is); (case ok_EventSystem => k_is); (case na_EventSystem_pairs => k_is); (case gc_GaitError => k_is); (case gc_NotFound => k_is); (case gc_ZeroDenominator => k_is); (case gc_EmptyHistory => k_is); (case gc_UnknownEvent => k_is); (case gc_InvalidTimes => k_is); (case gc_InvalidRound => k_is); (case gc_InvalidName => k_is); (case gc_DuplicateName => k_is); (case gc_InvalidTerm => k_is); (case gc_InvalidCount => k_is); (case x1_ZeroDenominator => kx_is); (case x2_ZeroDenominator => kx_is); (case x3_ZeroDenominator => k_is); (case x4_ZeroDenominator => k_is); (case x5_ZeroDenominator => k_is); (case x6_ZeroDenominator => k_is); (case x7_ZeroDenominator => k_is); (case x8_ZeroDenominator => k_is); (case x9_ZeroDenominator => k_is); (case no_ZeroDenominator_tag => k_is); (case s_ZeroDenominator_GaitError => k_is); (case s_ZeroDenominator_NotFound => k_is); (case s_ZeroDenominator_ZeroDenominator => k_is); (case s_ZeroDenominator_EmptyHistory => k_is); (case x1_UnknownEvent => kx_is); (case x2_UnknownEvent => kx_is); (case x3_UnknownEvent => k_is); (case x4_UnknownEvent => k_is); (case x5_UnknownEvent => k_is); (case x6_UnknownEvent => k_is); (case x7_UnknownEvent => k_is); (case x8_UnknownEvent => k_is); (case x9_UnknownEvent => k_is); (case no_UnknownEvent_tag => k_is); (case no_UnknownEvent_name => k_is); (case s_UnknownEvent_GaitError => k_is); (case s_UnknownEvent_NotFound => k_is); (case s_UnknownEvent_ZeroDenominator => k_is); (case s_UnknownEvent_EmptyHistory => k_is); (case x1_InvalidTimes => kx_is); (case x2_InvalidTimes => kx_is); (case x3_InvalidTimes => k_is); (case x4_InvalidTimes => k_is); (case x5_InvalidTimes => k_is); (case x6_InvalidTimes => k_is); (case x7_InvalidTimes => k_is); (case x8_InvalidTimes => k_is); (case x9_InvalidTimes => k_is); (case no_InvalidTimes_tag => k_is); (case s_InvalidTimes_GaitError => k_is); (case s_InvalidTimes_NotFound => k_is); (case s_InvalidTimes_ZeroDenominator => k_is); (case s_InvalidTimes_EmptyHistory => k_is); (case x1_InvalidRound => kx_is); (case x2_InvalidRound => kx_is); (case x3_InvalidRound => k_is); (case x4_InvalidRound => k_is); (case x5_InvalidRound => k_is); (case x6_InvalidRound => k_is); (case x7_InvalidRound => k_is); (case x8_InvalidRound => k_is); (case x9_InvalidRound => k_is); (case no_InvalidRound_tag => k_is); (case no_InvalidRound_number => k_is); (case s_InvalidRound_GaitError => k_is); (case s_InvalidRound_NotFound => k_is); (case s_InvalidRound_ZeroDenominator => k_is); (case s_InvalidRound_EmptyHistory => k_is); (case x1_InvalidName => kx_is); (case x2_InvalidName => kx_is); (case x3_InvalidName => k_is); (case x4_InvalidName => k_is); (case x5_InvalidName => k_is); (case x6_InvalidName => k_is); (case x7_InvalidName => k_is); (case x8_InvalidName => k_is); (case x9_InvalidName => k_is); (case no_InvalidName_tag => k_is); (case no_InvalidName_name => k_is); (case s_InvalidName_GaitError => k_is); (case s_InvalidName_NotFound => k_is); (case s_InvalidName_ZeroDenominator => k_is); (case s_InvalidName_EmptyHistory => k_is); (case x1_DuplicateName => kx_is); (case x2_DuplicateName => kx_is); (case x3_DuplicateName => k_is); (case x4_DuplicateName => k_is); (case x5_DuplicateName => k_is); (case x6_DuplicateName => k_is); (case x7_DuplicateName => k_is); (case x8_DuplicateName => k_is); (case x9_DuplicateName => k_is); (case no_DuplicateName_tag => k_is); (case no_DuplicateName_name => k_is); (case s_DuplicateName_GaitError => k_is); (case s_DuplicateName_NotFound => k_is); (case s_DuplicateName_ZeroDenominator => k_is); (case s_DuplicateName_EmptyHistory => k_is); (case x1_InvalidTerm => kx_is); (case x2_InvalidTerm => kx_is); (case x3_InvalidTerm => k_is); (case x4_InvalidTerm => k_is); (case x5_InvalidTerm => k_is); (case x6_InvalidTerm => k_is); (case x7_InvalidTerm => k_is); (case x8_InvalidTerm => k_is); (case x9_InvalidTerm => k_is); (case no_InvalidTerm_tag => k_is); (case no_InvalidTerm_name => k_is); (case s_InvalidTerm_GaitError => k_is); (case s_InvalidTerm_NotFound => k_is); (case s_InvalidTerm_ZeroDenominator => k_is); (case s_InvalidTerm_EmptyHistory => k_is); (case x1_InvalidCount => kx_is); (case x2_InvalidCount => kx_is); (case x3_InvalidCount => k_is); (case x4_InvalidCount => k_is); (case x5_InvalidCount => k_is); (case x6_InvalidCount => k_is); (case x7_InvalidCount => k_is); (case x8_InvalidCount => k_is); (case x9_InvalidCount => k_is); (case no_InvalidCount_tag => k_is); (case no_InvalidCount_quantity => k_is); (case s_InvalidCount_GaitError => k_is); (case s_InvalidCount_NotFound => k_is); (case s_InvalidCount_ZeroDenominator => k_is); (case s_InvalidCount_EmptyHistory => k_is); (case y1_GaitError => k_is); (case y2_GaitError => k_is); (case y3_GaitError => k_is); (case y1_NotFound => k_is); (case y2_NotFound => k_is); (case y3_NotFound => k_is); (case y1_ZeroDenominator => k_is); (case y2_ZeroDenominator => k_is); (case y3_ZeroDenominator => k_is); (case y1_EmptyHistory => k_is); (case y2_EmptyHistory => k_is); (case y3_EmptyHistory => k_is); (case rd_GaitError => k_is); (case sg_GaitError => k_is); (case rd_NotFound => k_is); (case sg_NotFound => k_is); (case vV_LookupError => k_is); (case vV_ValueError => k_is); (case vV_ZeroDivisionError => k_is); (case a0 => k_is); (case l0 => k_is); (case c0 => k_is); (case k0 => k_is); (case t0 => k_is); (case fc0 => k_is); (case d0 => k_is); (case a1 => k_is); (case l1 => k_is); (case c1 => k_is); (case k1 => k_is); (case t1 => k_is); (case fc1 => k_is); (case d1 => k_is); (case a2 => k_is); (case l2 => k_is); (case c2 => k_is); (case k2 => k_is); (case t2 => k_is); (case a3 => k_is); (case l3 => k_is); (case c3 => k_is); (case k3 => k_is); (case t3 => k_is); (case a4 => k_is); (case l4 => k_is); (case c4 => k_is); (case k4 => k_is); (case t4 => k_is); (case a5 => k_is); (case l5 => k_is); (case c5 => k_is); (case k5 => k_is); (case t5 => k_is); (case a6 => k_is); (case l6 => k_is); (case c6 => k_is); (case k6 => k_is); (case t6 => k_is); (case a7 => k_is); (case l7 => k_is); (case c7 => k_is); (case k7 => k_is); (case t7 => k_is); (case a8 => k_is); (case l8 => k_is); (case c8 => k_is); (case k8 => k_is); (case t8 => k_is); (case a9 => k_is); (case l9 => k_is); (case c9 => k_is); (case k9 => k_is); (case t9 => k_is); (case a10 => k_is); (case l10 => k_is); (case c10 => k_is); (case k10 => k_is); (case a11 => k_is); (case l11 => k_is); (case c11 => k_is); (case k11 => k_is); (case a12 => k_is); (case l12 => k_is); (case c12 => k_is); (case k12 => k_is); (case a13 => k_is); (case l13 => k_is); (case c13 => k_is); (case k13 => k_is); (case d13 => k_is); (case a14 => k_is); (case l14 => k_is); (case c14 => k_is); (case k14 => k_is); (case a15 => k_is); (case l15 => k_is); (case c15 => k_is); (case k15 => k_is); (case a16 => k_is); (case l16 => k_is); (case c16 => k_is); (case k16 => k_is); (case a17 => k_is); (case l17 => k_is); (case c17 => k_is); (case k17 => k_is); (case a18 => k_is); (case l18 => k_is); (case c18 => k_is); (case k18 => k_is); (case a19 => k_is); (case l19 => k_is); (case c19 => k_is); (case k19 => k_is); (case kd19_0 => k_is); (case a20 => k_is); (case l20 => k_is); (case c20 => k_is); (case k20 => k_is); (case a21 => k_is); (case l21 => k_is); (case c21 => k_is); (case k21 => k_is); (case a22 => k_is); (case l22 => k_is); (case c22 => k_is); (case k22 => k_is); (case a23 => k_is); (case l23 => k_is); (case c23 => k_is); (case k23 => k_is); (case a24 => k_is); (case l24 => k_is); (case c24 => k_is); (case k24 => k_is); (case a25 => k_is); (case l25 => k_is); (case c25 => k_is); (case k25 => k_is); (case a26 => k_is); (case l26 => k_is); (case c26 => k_is); (case k26 => k_is); (case a27 => k_is); (case l27 => k_is); (case c27 => k_is); (case k27 => k_is); (case a28 => k_is); (case l28 => k_is); (case c28 => k_is); (case k28 => k_is); (case a29 => k_is); (case l29 => k_is); (case c29 => k_is); (case k29 => k_is); (case a30 => k_is); (case l30 => k_is); (case c30 => k_is); (case k30 => k_is); (case a31 => k_is); (case l31 => k_is); (case c31 => k_is); (case k31 => k_is); (case a32 => k_is); (case l32 => k_is); (case c32 => k_is); (case k32 => k_is); (case a33 => k_is); (case l33 => k_is); (case c33 => k_is); (case k33 => k_is); (case a34 => k_is); (case l34 => k_is); (case c34 => k_is); (case k34 => k_is); (case a35 => k_is); (case l35 => k_is); (case c35 => k_is); (case k35 => k_is); (case a36 => k_is); (case l36 => k_is); (case c36 => k_is); (case k36 => k_is); (case a37 => k_is); (case l37 => k_is); (case c37 => k_is); (case k37 => k_is); (case a38 => k_is); (case l38 => k_is); (case c38 => k_is); (case k38 => k_is); (case i38 => k_is); (case a39 => k_is); (case l39 => k_is); (case c39 => k_is); (case k39 => k_is); (case i39 => k_is); (case a40 => k_is); (case l40 => k_is); (case c40 => k_is); (case k40 => k_is); (case i40 => k_is); (case a41 => k_is); (case l41 => k_is); (case c41 => k_is); (case k41 => k_is); (case i41 => k_is); (case a42 => k_is); (case l42 => k_is); (case c42 => k_is); (case k42 => k_is); (case a43 => k_is); (case l43 => k_is); (case c43 => k_is); (case k43 => k_is); (case a44 => k_is); (case l44 => k_is); (case c44 => k_is); (case k44 => k_is); (case a45 => k_is); (case l45 => k_is); (case c45 => k_is); (case k45 => k_is); (case a46 => k_is); (case l46 => k_is); (case c46 => k_is); (case k46 => k_is); (case a47 => k_is); (case l47 => k_is); (case c47 => k_is); (case k47 => k_is); (case a48 => k_is); (case l48 => k_is); (case c48 => k_is); (case k48 => k_is); (case a49 => k_is); (case l49 => k_is); (case c49 => k_is); (case k49 => k_is); (case a50 => k_is); (case l50 => k_is); (case c50 => k_is); (case k50 => k_is); (case a51 => k_is); (case l51 => k_is); (case c51 => k_is); (case k51 => k_is); (case a52 => k_is); (case l52 => k_is); (case c52 => k_is); (case k52 => k_is); (case a53 => k_is); (case l53 => k_is); (case c53 => k_is); (case k53 => k_is); (case a54 => k_is); (case l54 => k_is); (case c54 => k_is); (case k54 => k_is); (case a55 => k_is); (case l55 => k_is); (case c55 => k_is); (case k55 => k_is); (case a56 => k_is); (case l56 => k_is); (case c56 => k_is); (case k56 => k_is); (case a57 => k_is); (case l57 => k_is); (case c57 => k_is); (case k57 => k_is); (case a58 => k_is); (case l58 => k_is); (case c58 => k_is); (case k58 => k_is); (case a59 => k_is); (case l59 => k_is); (case c59 => k_is); (case k59 => k_is); (case a60 => k_is); (case l60 => k_is); (case c60 => k_is); (case k60 => k_is); (case a61 => k_is); (case l61 => k_is); (case c61 => k_is); (case k61 => k_is); (case a62 => k_is); (case l62 => k_is); (case c62 => k_is); (case k62 => k_is); (case a63 => k_is); (case l63 => k_is); (case c63 => k_is); (case k63 => k_is); (case a64 => k_is); (case l64 => k_is); (case c64 => k_is); (case k64 => k_is); (case a65 => k_is); (case l65 => k_is); (case c65 => k_is); (case k65 => k_is); (case z0 => k_is); (case z1 => k_is); (case z2 => k_is); (case z3 => k_is); (case z4 => k_is); (case z5 => k_is); (case z6 => k_is); (case z7 => k_is); (case z8 => k_is); (case z9 => k_is); (case z10 => k_is); (case z11 => k_is); (case z12 => k_is); (case z13 => k_is); (case z14 => k_is); (case z15 => k_is); (case z16 => k_is); (case z17 => k_is); (case q_ZERO => k_is); (case m_ZERO => k_is); (case q_KEYWORDS => k_is); (case m_KEYWORDS => k_is); (case q_MAX_NAME => k_is); (case q_MAX_SIDE => k_is); (case q_MAX_OPERANDS => k_is); (case q_MAX_SIZE => k_is); (case q_MAX_DEPTH => k_is); (case q_MAX_EVENTS => k_is); (case lc => k_is); (case v11 => rfl); (case w11 => rfl); (case v18 => rfl); (case v7 => rfl); (case v9 => rfl); (case v10 => rfl); (case nct => decide); (case nT => exact (by kernel_rfl))
