import PyProof.Rows.All
import Wide.All
import OpenK.AllK
import Wide.FinOn
import PySem.Challenge.RW_wordhulls_k01_errors_and_their_values
import HandS.ForMost
import HandS.Exc
import HandS.TryOnly
import HandS.ExcOwn
import HandS.WordsExc
import HandS.OwnEq
import HandS.Property
import HandS.MakeKw
import HandS.IsInst
import HandS.SetKeys
import HandS.ExcInit
import HandS.Wide
import HandS.Walk
import HandS.Steps
import PyProof.InstNe
import PyProof.ReprLen
import HandS.ExcField
import HandS.ExcIs
import HandS.HotCalls
import HandS.MakeKwOnly
import HandS.RaiseMore
import HandS.Dict
set_option Elab.async false
set_option linter.all false
set_option maxRecDepth 100000
namespace WH
open PySem PySem.Spec PyProof.Rows L2
/-! a power of an int of less than a hundred thousand bits -/
def CPowW (i j : Int) : Prop := 0 ≤ j ∧ j ≤ 100 ∧ i.natAbs.log2 < 1000000
theorem CPowW.ok {i j : Int} (h : CPowW i j) : (Builtin.Int.intBits i : Int) * j ≤ 2 ^ 27 := by
  obtain ⟨h1, h2, h3⟩ := h
  have b : Builtin.Int.intBits i ≤ i.natAbs.log2 + 1 := by
    unfold Builtin.Int.intBits
    split <;> omega
  have e : (2 : Int) ^ 27 = 134217728 := by decide
  rw [e]
  have b2 : (Builtin.Int.intBits i : Int) ≤ 1000000 := by omega
  have := Int.mul_le_mul b2 h2 h1 (by decide)
  omega
theorem op_powW {X : Cx} : OpR X (binaryOp .Pow) (rI CPowW fun i j => .int (i ^ j.toNat)) := opI fun _ _ _ _ _ _ _ hc q => pow_int hc.1 hc.ok q
theorem log2_small {i : Int} {n : Nat} (h0 : 0 ≤ i) (h : i < 2 ^ n) (hn : n ≤ 1000000) (hp : 0 < n) : i.natAbs.log2 < 1000000 := by
  have : i.natAbs < 2 ^ n := by
    have e : ((2 ^ n : Nat) : Int) = (2 : Int) ^ n := by simp
    omega
  exact Nat.lt_of_lt_of_le (PySem.Flt.log2_lt_of hp this) hn
end WH
namespace WH
open PySem PySem.Spec PyProof.Rows L2
abbrev Sl := List (Option V)
theorem same_upd {H : Hp} {p : Addr} {o : HO} (h : H p = none) : Same H (upd H p o) := fun b x e => by
  rw [upd_ne (ne_of_none e h)]
  exact e
theorem same_set {H H1 : Hp} {p : Addr} {o : HO} (s : Same H H1) (h : H p = none) : Same H (upd H1 p o) := fun b x e => by
  rw [upd_ne (ne_of_none e h)]
  exact s b x e
/-- what a comprehension gives: f i (none: left out) for the turns ahead of i -/
def fmr (f : Nat → Option V) (i : Nat) : List V := (List.range i).filterMap f
theorem fmr_succ (f : Nat → Option V) (i : Nat) : fmr f (i + 1) = fmr f i ++ (f i).toList := by
  unfold fmr
  rw [List.range_succ, List.filterMap_append]
  cases h : f i <;> simp [h]
theorem fmr_len (f : Nat → Option V) (i : Nat) : (fmr f i).length ≤ i := by
  unfold fmr
  exact Nat.le_trans (List.length_filterMap_le _ _) (by rw [List.length_range]; exact Nat.le_refl _)
/-- a comprehension whose turns change nothing that stood -/
theorem lc_fm {J : It} {n : Nat} {G : Hp → Prop} {Y : Nat → Hp → V → Hp → Prop} (w : Walk J n G Y) {g : TG} {tt : TT} {te : TE} {vs : List Nat} {σ : Sl} {H1 : Hp} {D : Addr} {Qd : Hp → Prop}
    (f : Nat → Option V) (hn : n < sizeLine) (hD : H1 D = none) (hG : ∀ H, Same H1 H → G H)
    (hs : ∀ i x H H' (N : Option V → Hp → Prop), i < n → Same H1 H → Y i H x H' → (∀ H4, Same H H4 → N (f i) H4) → g x (wipe σ vs) H' fun σ2 H2 => wipe σ2 vs = wipe σ vs ∧ tt σ2 H2 fun b H3 =>
      if b = true then te σ2 H3 fun y H4 => N (some y) H4 else N none H3)
    (hd : ∀ H, Same H1 H → H D = some (.lst (fmr f n)) → Qd H) :
    ∃ W : Nat → Nat → Hp → Prop, (∃ m, W 0 m (upd H1 D (.lst []))) ∧ ∀ i m H, W i m H →
      (J.stop i H ∧ Qd H) ∨ (J.go i H ∧ ∃ Nx : Hp → Prop, (∀ H', Nx H' → ∃ m', m' < m ∧ W (i + 1) m' H') ∧ ∀ x H', J.yld i H x H' → g x (wipe σ vs) H' fun σ2 H2 => wipe σ2 vs = wipe σ vs ∧ tt σ2 H2 fun b H3 =>
        if b = true then te σ2 H3 fun y H4 => ∃ acc, H4 D = some (.lst acc) ∧ acc.length < sizeLine ∧ Nx (upd H4 D (.lst (acc ++ [y]))) else Nx H3) := by
  refine lc_it w (fun i H => Same H1 H ∧ H D = some (.lst (fmr f i))) ⟨same_upd hD, upd_same⟩ (fun i H _ p => hG H p.1) ?_ (fun H p => hd H p.1 p.2)
  rintro i x H H' hi ⟨s, hd'⟩ hy
  refine hs i x H H' (fun o H4 => match o with
    | some y => ∃ acc, H4 D = some (.lst acc) ∧ acc.length < sizeLine ∧ (Same H1 (upd H4 D (.lst (acc ++ [y]))) ∧ (upd H4 D (.lst (acc ++ [y]))) D = some (.lst (fmr f (i + 1))))
    | none => Same H1 H4 ∧ H4 D = some (.lst (fmr f (i + 1)))) hi s hy fun H4 s4 => ?_
  rw [fmr_succ]
  cases f i with
  | none => exact ⟨s.trans s4, by rw [s4 _ _ hd']; simp⟩
  | some y => exact ⟨_, s4 _ _ hd', Nat.lt_of_le_of_lt (fmr_len f i) (by omega), same_set (s.trans s4) hD, upd_same⟩
/-- all turns keep: the list by a map -/
theorem fmr_map (f : Nat → V) (n : Nat) : fmr (fun i => some (f i)) n = (List.range n).map f := by
  unfold fmr
  rw [← List.filterMap_eq_map]
  rfl
theorem range_map_getD (xs : List V) (F : V → V) : (List.range xs.length).map (fun i => F (xs.getD i .non)) = xs.map F := by
  apply List.ext_getElem
  · simp
  · intro i h1 h2
    simp at h1 h2
    simp [List.getD, h2]
theorem fmr_list (xs : List V) (F : V → Option V) : fmr (fun i => F (xs.getD i .non)) xs.length = xs.filterMap F := by
  unfold fmr
  have : (List.range xs.length).map (fun i => xs.getD i .non) = xs := by
    have := range_map_getD xs (fun v => v)
    simpa using this
  calc (List.range xs.length).filterMap (fun i => F (xs.getD i .non)) = ((List.range xs.length).map (fun i => xs.getD i .non)).filterMap F := by rw [List.filterMap_map]; rfl
    _ = xs.filterMap F := by rw [this]
theorem yesT {σ : Sl} {H : Hp} {A B : Hp → Prop} (h : A H) : tYes σ H (fun b H3 => if b = true then A H3 else B H3) := by
  show (if true = true then A H else B H)
  rw [if_pos rfl]
  exact h
/-- between two statements: what the first one leaves -/
theorem seq_mid {t1 t2 : TS} {D : Ends} {σ : Sl} {H : Hp} (R : Sl → Hp → Prop) (h1 : ∀ N : Sl → Hp → Prop, (∀ σ' H', R σ' H' → N σ' H') → t1 { D with nx := N } σ H) (h2 : ∀ σ' H', R σ' H' → t2 D σ' H') : tSeq t1 t2 D σ H := h1 _ h2
/-! ### the letters -/
def LET : Str := "abcdefghijklmnopqrstuvwxyz"
def isL (z : Str) : Bool := z.cps.toList.all fun c => decide (c ∈ LET.cps.toList)
def isW (z : Str) : Bool := decide (1 ≤ z.length) && decide (z.length ≤ 8) && isL z
theorem getD_at {z : Str} {i c : Nat} (hi : i < z.cps.size) (hc : z.cps[i]? = some c) : z.cps.getD i 0 = c := by
  simp [Array.getD, hi, Array.getElem?_eq_getElem hi] at hc ⊢
  exact hc
theorem fmr_isL (z : Str) : (fmr (fun i => some (.bl (decide (z.cps.getD i 0 ∈ LET.cps.toList)))) z.cps.size) = (z.cps.toList.map fun c => decide (c ∈ LET.cps.toList)).map V.bl := by
  rw [fmr_map]
  apply List.ext_getElem
  · simp
  · intro i h1 h2
    simp at h1 h2
    simp [Array.getD, h2]
theorem all_isL (z : Str) : (z.cps.toList.map fun c => decide (c ∈ LET.cps.toList)).all id = isL z := by
  unfold isL
  rw [List.all_map]
  rfl
end WH
set_option maxHeartbeats 2000000
namespace WH
open PySem PySem.Spec PyProof.Rows L2 PySem.W PySem.Calls
/-- what the written part says of a class with an own == and without an own != -/
structure EqCls (K : PySem.W.Frag) (C f : Addr) : Prop where
  cls : ∃ nm q N bs sn sub ab col dd k0 k1 k2 k3 k5, K.lookup C = some (excClassObj nm q C N bs [.type "object"] true sn sub ab col dd k0 k1 k2 k3 k5 "object.__new__")
  eq : findIn K (.ref C) "__eq__" = some (some (.ref f))
  ne : findIn K (.ref C) "__ne__" = some (some (.builtin "object.__ne__"))
  fn : isFn K (.ref f) = true
section
variable {prog : Program} {w : World} {A : Around} {E : Value → Shared → Prop} {K : PySem.W.Frag} {C x f L : Addr} {b tb : Value} {h₀ : Heap} {s : Shared} {m : Str → Option Value} {ox : Obj} {od : Option Obj}
theorem ifBoundB_K {M : Model} {name : Str} {id : String} {args : List Value} {Q : Option Value → Shared → Prop} (X : K.In s.heap) (I : InstAt s.heap x ox C od) (hs : findIn K (.ref C) name = some (some (.builtin id))) {B : String} (S : Slot B name id)
    (h : wpAny M A (call (.builtin id) (.ref x :: args)) (fun v => Q (some v)) E s) : wpAny M A (callSpecialIfBound? (.ref x) name args) Q E s := by
  simp only [callSpecialIfBound?, bindSpecialIfBound?]
  refine wpAny_holding (wpAny_bind (wpAny_bind (wpAny_bind (I.type.here ((looks_findIn X hs).here ?_)))))
  simp only [S.bind]
  refine wpAny_bind (wpAny_askSetting (wpAny_ite ?_))
  have fin : wpAny M A (call (.builtin id) ([.ref x] ++ args) >>= fun v => pure (some v)) Q E s := wpAny_bind (wpAny_mono h (fun v s' h' => wpAny_pure h') fun _ _ h' => h')
  split
  · exact wpAny_bind (wpAny_pure (wpAny_pure fin))
  · exact wpAny_tryCatch (wpAny_bind (wpAny_pure (wpAny_pure fin)))
theorem objNe_K {Q : Fin → Shared → Prop} (X : K.In s.heap) (I : InstAt s.heap x ox C od) (T : EqCls K C f) (hu : A.units < cLine)
    (h : wpAny (model prog w) A (call (.ref f) [.ref x, b]) (fun v s' => ∃ r, v = .bool r ∧ Q (.done (.ret (.bool (!r)))) s') E s) :
    wpAny (model prog w) A (Builtin.«object.__ne__» ⟨[.ref x, b], []⟩) Q E s := by
  unfold Builtin.«object.__ne__»
  repeat (first
    | with_reducible refine wpAny_cRoomFor hu ?_
    | (refine wpAny_bind (m := callSpecialIfBound? (.ref x) (Str.ofString "__eq__") [b])
        (ifBound_K X I T.eq T.fn (wpAny_mono h (fun r s' hr => by
          obtain ⟨r, rfl, hq⟩ := hr
          repeat (first | exact hq | exact wpAny_pure hq | exact wpAny_truthy_bool hq | (refine wpAny_bind (m := truthy (.bool _)) (wpAny_truthy_bool ?_)) | wp_step)) fun _ _ e => e)))
    | wp_step)
theorem ne_K {Q : Value → Shared → Prop} (hu : A.units + 1 < cLine) (X : K.In s.heap) (I : InstAt s.heap x ox C od) (hb : Looks (model prog w) s.heap (typeOf b) tb) (hn : notFirst K C tb = true) (T : EqCls K C f)
    (h : wpAny (model prog w) A.in1 (call (.ref f) [.ref x, b]) (fun v s' => ∃ r, v = .bool r ∧ Q (.bool (!r)) s') E s) : wpAny (model prog w) A (richCompare .NotEq (.ref x) b) Q E s := by
  obtain ⟨nm, q, N, bs, sn, sub, ab, col, dd, k0, k1, k2, k3, k5, hC⟩ := T.cls
  have one : wpAny (model prog w) A (tryCompare (.ref x) "__ne__" b) (fun r s' => ∃ v, r = some v ∧ Q v s') E s := by
    unfold tryCompare
    refine wpAny_bind (ifBoundB_K X I T.ne F.cmp_object.ne (wpAny_call (codeAny_call_builtin F.cmp_object.ne.plain F.cmpEntry_ne
      (wpAny_check_slot_inst F.cmpKind_ne F.cmpSplit_ne (F.cmpArgs_ne _ _) F.cmp_object.hasObject I.at_ I.cls (X _ _ hC)
        (objNe_K (A := A.in1) X I T hu (wpAny_mono h (fun v s' hv => ?_) fun _ _ e => e))))))
    obtain ⟨r, rfl, hq⟩ := hv
    first | exact ⟨r, rfl, wpAny_pure ⟨_, rfl, hq⟩⟩ | exact ⟨r, rfl, wpAny_pure (wpAny_pure ⟨_, rfl, hq⟩)⟩ 
  unfold richCompare
  simp only [oneThing_ref]
  refine wpAny_holding (wpAny_bind (wpAny_cRoomFor (Nat.lt_of_succ_lt hu) ?_))
  refine wpAny_bind (I.type.here (wpAny_bind (hb.here ?_)))
  split
  · rename_i q
    have e : subIn K tb (.ref C) = some false := by
      rcases Bool.or_eq_true_iff.mp hn with e | e
      · rw [beq_iff_eq.mp e] at q; simp at q
      · exact beq_iff_eq.mp e
    refine wpAny_bind ((looks_subIn X e).here ?_)
    simp only [Bool.false_eq_true, if_false]
    refine wpAny_bind (wpAny_mono one (fun r s' z => ?_) fun _ _ e => e)
    obtain ⟨v, rfl, hq⟩ := z
    exact wpAny_pure hq
  · refine wpAny_bind (wpAny_pure ?_)
    simp only [Bool.false_eq_true, if_false]
    refine wpAny_bind (wpAny_mono one (fun r s' z => ?_) fun _ _ e => e)
    obtain ⟨v, rfl, hq⟩ := z
    exact wpAny_pure hq
end
/-! own == and != with either answer, by the promise of __eq__ -/
def rOwn (K : PySem.W.Frag) (C : Addr) (sp : Sp) (E : XK) (neg : Bool) : R2 := fun x y H Q => ∃ a dx fs t, x = .ref a ∧ H a = some (.ins C dx fs) ∧ TyX K H y t ∧ notFirst K C t = true ∧
  sp [x, y] H (fun v H' => ∃ r, v = .bl r ∧ Q (.bl (if neg = true then !r else r)) H') E
section
variable {X : Cx} {n : Nat} {CX : CXT} {C f : Addr} {fd : FuncData} {ps : List Str} {sp : Sp} {E : XK}
theorem own_call (F : FnOk X.prog X.w X.K X.mg X.base CX n f fd ps sp) (hb : Binds X.K fd ps []) (hx : Passes CX X E) {A : Around} (sb : Sub X n A) {pins : List (Addr × Obj)} {σ : Sl} {H : Hp} {s : Shared} {x y : V} {u v : Value} {Q : VK}
    (I : Inv X pins σ H s) (rx : RelV x u) (ry : RelV y v) (h : sp [x, y] H Q E) : wpAny (model X.prog X.w) A (PySem.call (.ref f) [u, v]) (EP X pins σ Q) X.xe s := by
  have e0 : Env0 X.prog X.w X.K X.mg X.base A X.stack s H := by
    have e := I.env0
    exact ⟨by rw [sb.fr]; exact e.frames, e.mod, e.bs, e.bsz, e.funs, e.frf, e.hok, e.bare⟩
  have hl := F.len _ _ _ _ h
  have r2 : Vals [x, y] [u, v] := .cons rx (.cons ry .nil)
  refine wpAny_call (codeAny_mono (F.run A X.stack s H ⟨[u, v], []⟩ [u, v] [x, y] _ E sb.room e0 (by
    have := hb s [u, v] I.kIn (by simpa using hl)
    simpa using this) r2 h) fun r s' hq => ?_)
  cases r with
  | error e => exact hx pins σ H s e s' I hq
  | ok fl =>
    cases fl with
    | ret w => exact I.after hq
    | next => exact False.elim hq
    | brk => exact False.elim hq
    | cont => exact False.elim hq
theorem op_eqOwn (T : EqCls X.K C f) (F : FnOk X.prog X.w X.K X.mg X.base CX n f fd ps sp) (hb : Binds X.K fd ps []) (hx : Passes CX X E) (hr : Room n X.A) : OpR X (compareOp .Eq) (rOwn X.K C sp E false) := by
  intro pins s σ H x y v u Q I rx ry hq
  obtain ⟨a, dx, fs, t, rfl, ha, ty, hn, q⟩ := hq
  cases rx
  obtain ⟨mA, J, _⟩ := ins_get I.hok ha
  obtain ⟨od, J, _⟩ := J.look
  obtain ⟨m, hF⟩ := I.fr
  obtain ⟨Pk, kx, hp, _⟩ := kit_of I ry ty
  show wpAny (model X.prog X.w) X.A (richCompare .Eq _ u) (EP X pins σ Q) X.xe s
  refine PySem.W.cmp_K (op := .Eq) (tb := t) hr.units0 hF I.ok.mod.kin J (kx.ty _ _ I.kIn hp) hn T.eq T.fn ?_
  refine wpAny_mono (own_call (x := .ref a) F hb hx ⟨hr, rfl⟩ I (show RelV (.ref a) (.ref a) from rfl) ry q) (fun r s' z => ?_) fun _ _ x => x
  obtain ⟨z, H', I', rz, b, rfl, ez⟩ := z
  cases rz
  exact ⟨.bl b, H', I', rfl, ez⟩
theorem op_neOwn (T : EqCls X.K C f) (F : FnOk X.prog X.w X.K X.mg X.base CX n f fd ps sp) (hb : Binds X.K fd ps []) (hx : Passes CX X E) (hr : Room (n + 1) X.A) : OpR X (compareOp .NotEq) (rOwn X.K C sp E true) := by
  intro pins s σ H x y v u Q I rx ry hq
  obtain ⟨a, dx, fs, t, rfl, ha, ty, hn, q⟩ := hq
  cases rx
  obtain ⟨mA, J, _⟩ := ins_get I.hok ha
  obtain ⟨od, J, _⟩ := J.look
  obtain ⟨Pk, kx, hp, _⟩ := kit_of I ry ty
  show wpAny (model X.prog X.w) X.A (richCompare .NotEq _ u) (EP X pins σ Q) X.xe s
  refine ne_K (hu_of (k := n + 1) hr) I.kIn J (kx.ty _ _ I.kIn hp) hn T ?_
  refine wpAny_mono (own_call (x := .ref a) F hb hx (Sub.in1 ⟨hr, rfl⟩) I (show RelV (.ref a) (.ref a) from rfl) ry q) (fun r s' z => ?_) fun _ _ x => x
  obtain ⟨z, H', I', rz, b, rfl, ez⟩ := z
  cases rz
  exact ⟨b, rfl, .bl (!b), H', I', rfl, ez⟩
end
end WH
namespace WH
open PySem PySem.Spec PyProof.Rows L2
/-! texts in lists and tuples, as data -/
def dStrs (ws : List Str) : List PyData := ws.map PyData.str
theorem eqvAll_strs : ∀ a b : List Str, PyData.eqvAll (dStrs a) (dStrs b) = decide (a = b)
  | [], [] => by simp [dStrs, PyData.eqvAll]
  | [], _ :: _ => by simp [dStrs, PyData.eqvAll]
  | _ :: _, [] => by simp [dStrs, PyData.eqvAll]
  | x :: a, y :: b => by
    have ih := eqvAll_strs a b
    unfold dStrs at ih ⊢
    rw [List.map_cons, List.map_cons]
    simp only [PyData.eqvAll, PyData.eqv, ih]
    by_cases h : x = y <;> by_cases h2 : a = b <;> simp [h, h2]
def SOk (a : List Str) : Prop := ∀ x ∈ a, PyData.strOk x = true
theorem canLay_strs : ∀ a : List Str, SOk a → PyData.canLayAll0 (dStrs a) = true
  | [], _ => by simp [dStrs, PyData.canLayAll0]
  | x :: a, h => by
    have ih := canLay_strs a fun y hy => h y (List.mem_cons_of_mem _ hy)
    unfold dStrs at ih ⊢
    rw [List.map_cons]
    simp only [PyData.canLayAll0, PyData.canLay0, ih, h x List.mem_cons_self, Bool.and_self]
theorem depth_strs : ∀ a : List Str, PyData.depthAll (dStrs a) ≤ 1
  | [] => by simp [dStrs, PyData.depthAll]
  | x :: a => by
    have ih := depth_strs a
    unfold dStrs at ih ⊢
    rw [List.map_cons]
    simp only [PyData.depthAll, PyData.depth]
    omega
theorem dpAll_strs {K : PySem.W.Frag} {H : Hp} : ∀ a : List Str, DpAll K H (a.map V.str) (dStrs a)
  | [] => .nil
  | x :: a => .cons (.str x) (dpAll_strs a)
theorem dp_lst {K : PySem.W.Frag} {H : Hp} {a : Addr} {ws : List Str} (h : SqL K H a (ws.map V.str)) : Dp K H (.ref a) (.list (dStrs ws)) := .lst h (dpAll_strs ws)
theorem dp_tup {K : PySem.W.Frag} {H : Hp} {a : Addr} {ws : List Str} (h : SqT K H a (ws.map V.str)) : Dp K H (.ref a) (.tuple (dStrs ws)) := .tup h (dpAll_strs ws)
theorem sh_lst {ws : List Str} (h : SOk ws) : SeqAt.shaped (.list (dStrs ws)) = true := by
  unfold SeqAt.shaped
  have := depth_strs ws
  simp only [PyData.canLay0, canLay_strs ws h, PyData.depth, Bool.true_and]
  exact decide_eq_true (by omega)
theorem sh_tup {ws : List Str} (h : SOk ws) : SeqAt.shaped (.tuple (dStrs ws)) = true := by
  unfold SeqAt.shaped
  have := depth_strs ws
  simp only [PyData.canLay0, canLay_strs ws h, PyData.depth, Bool.true_and]
  exact decide_eq_true (by omega)
theorem eqv_lst (a b : List Str) : PyData.eqv (.list (dStrs a)) (.list (dStrs b)) = decide (a = b) := by
  simp only [PyData.eqv]
  exact eqvAll_strs a b
theorem eqv_tup (a b : List Str) : PyData.eqv (.tuple (dStrs a)) (.tuple (dStrs b)) = decide (a = b) := by
  simp only [PyData.eqv]
  exact eqvAll_strs a b
theorem let_small : ∀ c ∈ LET.cps.toList, c < 123 := by decide +kernel
theorem sok_isL {x : Str} (h : isL x = true) : PyData.strOk x = true := by
  unfold PyData.strOk
  unfold isL at h
  rw [← Array.all_toList]
  rw [List.all_eq_true] at h ⊢
  intro c hc
  have h1 := let_small c (of_decide_eq_true (h c hc))
  exact decide_eq_true (by omega)
theorem sok_isW {x : Str} (h : isW x = true) : PyData.strOk x = true := by
  unfold isW at h
  simp only [Bool.and_eq_true] at h
  exact sok_isL h.2
/-! lists of lists of texts -/
def dLol (l : List (List Str)) : List PyData := l.map fun ws => PyData.list (dStrs ws)
theorem eqvAll_lol : ∀ a b : List (List Str), PyData.eqvAll (dLol a) (dLol b) = decide (a = b)
  | [], [] => by simp [dLol, PyData.eqvAll]
  | [], _ :: _ => by simp [dLol, PyData.eqvAll]
  | _ :: _, [] => by simp [dLol, PyData.eqvAll]
  | x :: a, y :: b => by
    have ih := eqvAll_lol a b
    unfold dLol at ih ⊢
    rw [List.map_cons, List.map_cons]
    simp only [PyData.eqvAll, eqv_lst, ih]
    by_cases h : x = y <;> by_cases h2 : a = b <;> simp [h, h2]
theorem canLay_lol : ∀ a : List (List Str), (∀ x ∈ a, SOk x) → PyData.canLayAll0 (dLol a) = true
  | [], _ => by simp [dLol, PyData.canLayAll0]
  | x :: a, h => by
    have ih := canLay_lol a fun y hy => h y (List.mem_cons_of_mem _ hy)
    unfold dLol at ih ⊢
    rw [List.map_cons]
    simp only [PyData.canLayAll0, PyData.canLay0, canLay_strs x (h x List.mem_cons_self), ih, Bool.and_self]
theorem depth_lol : ∀ a : List (List Str), PyData.depthAll (dLol a) ≤ 3
  | [] => by simp [dLol, PyData.depthAll]
  | x :: a => by
    have ih := depth_lol a
    have h2 := depth_strs x
    unfold dLol at ih ⊢
    rw [List.map_cons]
    simp only [PyData.depthAll, PyData.depth]
    omega
theorem sh_lol {l : List (List Str)} (h : ∀ x ∈ l, SOk x) : SeqAt.shaped (.list (dLol l)) = true := by
  unfold SeqAt.shaped
  have := depth_lol l
  simp only [PyData.canLay0, canLay_lol l h, PyData.depth, Bool.true_and]
  exact decide_eq_true (by omega)
theorem eqv_lol (a b : List (List Str)) : PyData.eqv (.list (dLol a)) (.list (dLol b)) = decide (a = b) := by
  simp only [PyData.eqv]
  exact eqvAll_lol a b
/-! in -/
theorem inV_strs (x : Str) (ws : List Str) : inV (.str x) (ws.map V.str) = decide (x ∈ ws) := by
  unfold inV
  rw [List.any_map]
  induction ws with
  | nil => simp
  | cons y r ih =>
    rw [List.any_cons, ih]
    have e : ((fun y => eqV y (V.str x)) ∘ V.str) y = decide (y = x) := by
      show eqV (V.str y) (V.str x) = _
      simp only [eqV]
      by_cases h : y = x <;> simp [h]
    rw [e]
    by_cases h : y = x <;> by_cases h2 : x ∈ r <;> simp [h, h2, eq_comm]
    all_goals (first | exact fun z => h z.symm | skip)
theorem flat_strs (ws : List Str) : (ws.map V.str).all flatV = true := by
  rw [List.all_map, List.all_eq_true]
  intro x _
  rfl
def fSel (q : Str → Bool) : V → Option V
  | .str z => if q z = true then some (.str z) else none
  | _ => none
theorem fSel_yes {q : Str → Bool} {z : Str} (h : q z = true) : fSel q (.str z) = some (.str z) := if_pos h
theorem fSel_no {q : Str → Bool} {z : Str} (h : q z = false) : fSel q (.str z) = none := if_neg (by simp [h])
theorem fmap_filter (ws : List Str) (q : Str → Bool) : (ws.map V.str).filterMap (fSel q) = (ws.filter q).map V.str := by
  induction ws with
  | nil => rfl
  | cons y r ih =>
    rw [List.map_cons, List.filterMap_cons]
    by_cases h : q y = true
    · simp [h, ih, fSel]
    · simp [h, ih, fSel]
section
variable {X : Cx} {CX : CXT} {k : Nat} {f : Addr} {fd : FuncData} {ps ks : List Str} {sp : Sp} {E : XK} {x : Str} {p pos : Pos} {kws : List Keyword} {tk : TA} {g : List Value → List Value → List Value} {gV : List V → List V → List V}
/-- f(k = v, ..) -/
theorem pe_callK0 (F : FnOk X.prog X.w X.K X.mg X.base CX k f fd ps sp) (hr : Room k X.A) (hg : Gl X x) (hm : X.mg x = some (.ref f)) (hk : PySem.W.keepIn X.K (.ref f) = true) (hb : KBinds X.K fd ps ks g gV) (hx : Passes CX X E)
    (hkw : PK X kws tk) (hall : (backToKw pos (keywordEach kws X.env)).all (·.1.isSome) = true := by rfl) (hks : (backToKw pos (keywordEach kws X.env)).filterMap (·.1) = ks := by rfl)
    (hdb : (x == ("__debug__" : Str)) = false := by decide) 
    (hpl : ((backTo pos (starEach [] X.env)).any (·.1) || (backToKw pos (keywordEach kws X.env)).any (·.1.isNone)) = false := by rfl) :
    PE X (.Call (.Name x p) [] kws pos) (tCallK sp gV E tNil tk) := by
  refine ⟨fun pins s σ H Q I h => ?_⟩
  refine wpAny_Call_Name_kw (ld_glob I hg hm ?_ hdb)
  refine PySem.W.callWith_KW0 (h₀ := X.base) I.ok.mod.kin hk hall ?_ hpl
  refine thn (hkw.run pos pins s σ H _ I h) fun ws s2 ⟨zs, H2, I2, rz, q2⟩ => ⟨I2.kIn, ?_⟩
  rw [hks]
  exact run_fnk (us := []) (vs := []) F hr hb hx I2 .nil rz q2
end
/-- how keywords bind -/
theorem kbinds_of {K : PySem.W.Frag} {x qual : Str} {st : Stmt} {f : Addr} {fd : FuncData} {ps ks : List Str} (F : Fun K x qual st f fd) (g : List Value → List Value → List Value) (gV : List V → List V → List V)
    (hrel : ∀ {vs : List V} {us : List Value} {zs : List V} {ws : List Value}, Vals vs us → Vals zs ws → Vals (gV vs zs) (g us ws))
    (h : ∀ (kV doc pm : Value) (an : Option Addr) (cdv ct : Value) (us ws : List Value), (g us ws).length = ps.length → bindArgs (PySem.W.fnOf x qual (defArgs st) (defBody st) (defScope st) .none kV doc pm an cdv ct) ⟨us, ks.zip ws⟩ = pure (ps.zip (g us ws))) : KBinds K fd ps ks g gV := by
  obtain ⟨oc, od, kV, doc, pm, an, cdv, ct, osl, rfl, lk, hcd⟩ := F.ex
  exact ⟨fun s us ws _ hl => .of_eq (h kV doc pm an cdv ct us ws hl), hrel⟩
/-- C(k = v): how it binds behind the instance -/
theorem kbn_words {K : PySem.W.Frag} {x qual : Str} {st : Stmt} {f : Addr} {fd : FuncData} {ps ks : List Str} (F : Fun K x qual st f fd)
    (h : ∀ (kV doc pm : Value) (an : Option Addr) (cdv ct : Value) (us ws : List Value), us.length = 1 → ws.length = ks.length → bindArgs (PySem.W.fnOf x qual (defArgs st) (defBody st) (defScope st) .none kV doc pm an cdv ct) ⟨us, ks.zip ws⟩ = pure (ps.zip (us ++ ws))) :
    KBn K fd ps 1 ks (fun us ws => us ++ ws) (fun us ws => us ++ ws) := by
  obtain ⟨oc, od, kV, doc, pm, an, cdv, ct, osl, rfl, lk, hcd⟩ := F.ex
  exact ⟨fun s us ws _ l1 l2 => .of_eq (h kV doc pm an cdv ct us ws l1 l2), fun r1 r2 => r1.append r2⟩
/-- two keywords, the second one first -/
def gTurn {α : Type} : List α → List α → List α
  | [], [a, b] => [b, a]
  | _, _ => []
theorem gTurn_rel {vs : List V} {us : List Value} {zs : List V} {ws : List Value} (h1 : Vals vs us) (h2 : Vals zs ws) : Vals (gTurn vs zs) (gTurn us ws) := by
  cases h1 with
  | nil =>
    cases h2 with
    | nil => exact .nil
    | cons a h2 =>
      cases h2 with
      | nil => exact .nil
      | cons b h2 =>
        cases h2 with
        | nil => exact .cons b (.cons a .nil)
        | cons c h2 => exact .nil
  | cons a h1 =>
    exact .nil
/-! texts run together -/
def catS (ys : List Str) : Str := ⟨((ys.map fun y => y.cps.toList).flatten).toArray⟩
theorem catS_list (ys : List Str) : (catS ys).cps.toList = (ys.map fun y => y.cps.toList).flatten := rfl
theorem glue_fold (e : Array Nat) (he : e = #[]) : ∀ (ps : List Str) (a : Array Nat), (ps.foldl (fun acc p => acc ++ e ++ p.cps) a).toList = a.toList ++ (ps.map fun y => y.cps.toList).flatten
  | [], a => by simp
  | p :: ps, a => by
    rw [List.foldl_cons, glue_fold e he ps]
    subst he
    simp
theorem join_cat {sep : Str} (hs : sep.cps = #[]) (ys : List Str) : Txt.join sep ys = catS ys := by
  apply ext_toList
  rw [catS_list]
  unfold Txt.join Builtin.Str.glued
  show ((ys.drop 1).foldl (fun acc p => acc ++ sep.cps ++ p.cps) (ys.headD Str.empty).cps).toList = _
  rw [glue_fold _ hs]
  cases ys with
  | nil => rfl
  | cons y r => simp
theorem catS_len (ys : List Str) : (catS ys).length = (ys.map (·.length)).sum := by
  show (catS ys).cps.size = _
  rw [← Array.length_toList, catS_list, List.length_flatten, List.map_map]
  rfl
theorem sum_ones (us : List Str) (h : ∀ u ∈ us, ∃ c, u = ⟨#[c]⟩) : (us.map (·.length)).sum = us.length := by
  induction us with
  | nil => rfl
  | cons u r ih =>
    obtain ⟨c, hc⟩ := h u List.mem_cons_self
    rw [List.map_cons, List.sum_cons, ih fun v hv => h v (List.mem_cons_of_mem _ hv), hc, List.length_cons]
    show 1 + r.length = r.length + 1
    omega
/-! cuts of texts -/
theorem cut_hi (z : Str) {c : Int} (h : 0 ≤ c) : (cutS z none (some c)).cps.toList = z.cps.toList.take c.toNat := by
  have e : c = (c.toNat : Int) := by omega
  unfold cutS
  rw [e, HT.sIx_nat, HT.sIx_none]
  show (z.cps.toList.drop 0).take (min c.toNat z.length - 0) = _
  rw [List.drop_zero, Nat.sub_zero]
  have : z.length = z.cps.toList.length := by simp [Str.length]
  rw [this, ← List.take_eq_take_min]
  rfl
theorem cut_lo (z : Str) {c : Int} (h : 0 ≤ c) : (cutS z (some c) none).cps.toList = z.cps.toList.drop c.toNat := by
  have e : c = (c.toNat : Int) := by omega
  unfold cutS
  rw [e, HT.sIx_nat, HT.sIx_none]
  have hz : z.length = z.cps.toList.length := by simp [Str.length]
  show (z.cps.toList.drop (min c.toNat z.length)).take (z.length - min c.toNat z.length) = z.cps.toList.drop c.toNat
  by_cases hc : c.toNat ≤ z.length
  · rw [Nat.min_eq_left hc, hz, List.take_of_length_le (by rw [List.length_drop]; omega)]
  · rw [Nat.min_eq_right (by omega), hz, List.drop_of_length_le (Nat.le_refl _), List.drop_of_length_le (by omega)]
    simp
theorem len_list (z : Str) : z.length = z.cps.toList.length := by simp [Str.length]
theorem isL_iff {z : Str} : isL z = true ↔ ∀ c ∈ z.cps.toList, c ∈ LET.cps.toList := by
  unfold isL
  rw [List.all_eq_true]
  exact ⟨fun h c hc => of_decide_eq_true (h c hc), fun h c hc => decide_eq_true (h c hc)⟩
theorem isL_app {a b : Str} (h1 : isL a = true) (h2 : isL b = true) : isL (a ++ b) = true := by
  rw [isL_iff] at h1 h2 ⊢
  intro c hc
  rw [Str.cps_append, Array.toList_append] at hc
  rcases List.mem_append.mp hc with h | h
  · exact h1 c h
  · exact h2 c h
theorem isL_hi {z : Str} {c : Int} (h0 : 0 ≤ c) (h : isL z = true) : isL (cutS z none (some c)) = true := by
  rw [isL_iff] at h ⊢
  intro x hx
  rw [cut_hi z h0] at hx
  exact h x (List.mem_of_mem_take hx)
theorem isL_lo {z : Str} {c : Int} (h0 : 0 ≤ c) (h : isL z = true) : isL (cutS z (some c) none) = true := by
  rw [isL_iff] at h ⊢
  intro x hx
  rw [cut_lo z h0] at hx
  exact h x (List.mem_of_mem_drop hx)
theorem len_app (a b : Str) : (a ++ b).length = a.length + b.length := Str.length_append a b
theorem len_hi {z : Str} {c : Int} (h0 : 0 ≤ c) : (cutS z none (some c)).length = min c.toNat z.length := by
  rw [len_list, cut_hi z h0, List.length_take, ← len_list]
theorem len_lo {z : Str} {c : Int} (h0 : 0 ≤ c) : (cutS z (some c) none).length = z.length - c.toNat := by
  rw [len_list, cut_lo z h0, List.length_drop, ← len_list]
/-- an item of a written list of texts -/
theorem at_strs {ss : List Str} {e : Int} (h0 : 0 ≤ e) (h : e < (ss.length : Int)) : ∃ s, atI (ss.map V.str) e = some (.str s) ∧ s ∈ ss ∧ ss[e.toNat]? = some s := by
  have hl : e.toNat < ss.length := by omega
  refine ⟨ss[e.toNat], ?_, List.getElem_mem hl, List.getElem?_eq_getElem hl⟩
  have e1 : (e.toNat : Int) = e := by omega
  have := atI_nat (xs := ss.map V.str) (j := e.toNat) (v := .str ss[e.toNat]) (by simp [hl])
  rwa [e1] at this
end WH
namespace WH
open PySem PySem.Spec PyProof.Rows L2
/-- a comprehension (no test) whose elements are new lists -/
theorem lc_refs' {J : It} {n : Nat} {G : Hp → Prop} {Y : Nat → Hp → V → Hp → Prop} (w : Walk J n G Y) {i0 : Nat} {te : TE} {vs : List Nat} {σ : Sl} {H1 : Hp} {D : Addr} {Qd : Hp → Prop}
    (c : Nat → List V) (hn : n < sizeLine) (hD : H1 D = none) (hG : ∀ H, Same H1 H → G H) (hw : ∀ x, wipe ((wipe σ vs).set i0 (some x)) vs = wipe σ vs)
    (hs : ∀ i x H H' (N : V → Hp → Prop), i < n → Same H1 H → Y i H x H' → (∀ l H4, H l = none → Same H H4 → H4 l = some (.lst (c i)) → N (.ref l) H4) → te ((wipe σ vs).set i0 (some x)) H' N)
    (hd : ∀ (ls : List Addr) H, Same H1 H → H D = some (.lst (ls.map V.ref)) → ls.length = n → (∀ (j : Nat) (l : Addr), ls[j]? = some l → H l = some (.lst (c j))) → Qd H) :
    ∃ W : Nat → Nat → Hp → Prop, (∃ m, W 0 m (upd H1 D (.lst []))) ∧ ∀ i m H, W i m H →
      (J.stop i H ∧ Qd H) ∨ (J.go i H ∧ ∃ Nx : Hp → Prop, (∀ H', Nx H' → ∃ m', m' < m ∧ W (i + 1) m' H') ∧ ∀ x H', J.yld i H x H' → gName i0 x (wipe σ vs) H' fun σ2 H2 => wipe σ2 vs = wipe σ vs ∧ tYes σ2 H2 fun b H3 =>
        if b = true then te σ2 H3 fun y H4 => ∃ acc, H4 D = some (.lst acc) ∧ acc.length < sizeLine ∧ Nx (upd H4 D (.lst (acc ++ [y]))) else Nx H3) := by
  refine lc_it w (fun i H => ∃ ls : List Addr, ls.length = i ∧ H D = some (.lst (ls.map V.ref)) ∧ (∀ (j : Nat) (l : Addr), ls[j]? = some l → l ≠ D ∧ H l = some (.lst (c j))) ∧ Same H1 H) ⟨[], rfl, upd_same, fun j l h => by simp at h, same_upd hD⟩ (fun i H _ p => hG H p.choose_spec.2.2.2) ?_ ?_
  · rintro i x H H' hi ⟨ls, hl, h1, h2, s⟩ hy
    refine ⟨hw x, yesT ?_⟩
    refine hs i x H H' _ hi s hy fun l H4 nl s4 h4 => ?_
    have nlD : l ≠ D := by
      intro z
      subst z
      rw [h1] at nl
      cases nl
    refine ⟨ls.map V.ref, s4 _ _ h1, ?_, ls ++ [l], by simp [hl], ?_, fun j m hj => ?_, same_set (s.trans s4) hD⟩
    · rw [List.length_map]
      omega
    · rw [upd_same]
      simp
    · by_cases hji : j < ls.length
      · rw [List.getElem?_append_left hji] at hj
        obtain ⟨a1, a2⟩ := h2 j m hj
        exact ⟨a1, by rw [upd_ne a1]; exact s4 _ _ a2⟩
      · have hj2 : j = ls.length := by
          have := (List.getElem?_eq_some_iff.mp hj).1
          rw [List.length_append] at this
          simp at this
          omega
        subst hj2
        rw [List.getElem?_append_right (Nat.le_refl _)] at hj
        simp at hj
        subst hj
        rw [hl]
        exact ⟨nlD, by rw [upd_ne nlD]; exact h4⟩
  · rintro H ⟨ls, hl, h1, h2, s⟩
    exact hd ls H s h1 hl fun j l h => (h2 j l h).2
theorem dpAll_refs {K : PySem.W.Frag} {H : Hp} : ∀ (ls : List Addr) (wss : List (List Str)), ls.length = wss.length → (∀ (j : Nat) (l : Addr) (ws : List Str), ls[j]? = some l → wss[j]? = some ws → SqL K H l (ws.map V.str)) → DpAll K H (ls.map V.ref) (dLol wss)
  | [], [], _, _ => .nil
  | [], _ :: _, h, _ => by simp at h
  | _ :: _, [], h, _ => by simp at h
  | l :: ls, ws :: wss, h, q => .cons (dp_lst (q 0 l ws rfl rfl)) (dpAll_refs ls wss (by simpa using h) fun j l' ws' h1 h2 => q (j + 1) l' ws' (by simpa using h1) (by simpa using h2))
/-- [due] * 2 -/
theorem dp_two {K : PySem.W.Frag} {H : Hp} {a l : Addr} {ws : List Str} (h : SqL K H a [.ref l, .ref l]) (hl : SqL K H l (ws.map V.str)) : Dp K H (.ref a) (.list (dLol [ws, ws])) :=
  .lst h (.cons (dp_lst hl) (.cons (dp_lst hl) .nil))
theorem gTurn_two {α : Type} {us ws : List α} (h : (gTurn us ws).length = 2) : us = [] ∧ ∃ a b, ws = [a, b] := by
  match us, ws, h with
  | [], [a, b], _ => exact ⟨rfl, a, b, rfl⟩
/-- the same behind a plain assignment -/
theorem seq_midN {i : Nat} {v : V} {t1 t2 : TS} {D : Ends} {σ : Sl} {H : Hp} (R : Sl → Hp → Prop) (h1 : ∀ N : Sl → Hp → Prop, (∀ σ' H', R σ' H' → N σ' H') → t1 { D with nx := N } (σ.set i (some v)) H) (h2 : ∀ σ' H', R σ' H' → t2 D σ' H') : gName i v σ H (tSeq t1 t2 D) := h1 _ h2
end WH
namespace WH
open PySem PySem.Spec PyProof.Rows L2
/-! ### repr, where it is known that no repr runs around -/
def rRepr (K : PySem.W.Frag) : List V → Hp → VK → Prop := fun xs H Q => ∃ (a : Addr) (d : PyData), xs = [.ref a] ∧ Dp K H (.ref a) d ∧ d.showable = true ∧ d.hasDict = false ∧ d.depth ≤ 60 ∧ d.shown.length ≤ sizeLine ∧ Q (.str d.shown) H
theorem call_repr {X : Cx} (hG : X.A.guards = some []) (hu : X.A.units + 64 < cLine) : CallR X (.builtin "repr") (rRepr X.K) := by
  intro pins s σ H xs us Q I r h
  obtain ⟨a, d, rfl, hd, hs, hn, hp, hz, q⟩ := h
  obtain ⟨u, rfl, ru⟩ := vals1 r
  obtain rfl : u = Value.ref a := ru
  obtain ⟨as, rd⟩ := hd.reads I d (.ref a) (.ref a) rfl
  exact repr_of_reads' rd hs (PyData.noDict_hsm hn) hG (by omega) (fun _ _ e => e) (fun h' t k keep => ⟨.str d.shown, H, I.kept keep, ⟨_, rfl⟩, q⟩) hz
/-- a def that keeps its promise where no repr runs around -/
structure FnG (P : Program) (w : World) (K : PySem.W.Frag) (mg : Str → Option Value) (base : Heap) (CX : CXT) (k : Nat) (f : Addr) (fd : FuncData) (ps : List Str) (sp : Sp) : Prop where
  len : ∀ vs H Q E, sp vs H Q E → vs.length = ps.length
  run : ∀ (A : Around) (outer : List Env) (s : Shared) (H : Hp) (args : Args) (us : List Value) (vs : List V) (Q : VK) (E : XK), Room k A → A.guards = some [] → Env0 P w K mg base A outer s H → BindsTo s fd args (ps.zip us) → Vals vs us →
    sp vs H Q E → codeAny (model P w) A (.call (.ref f) args) (CR CX outer P w H s Q E) s
section
variable {P : Program} {w : World} {K : PySem.W.Frag} {mg : Str → Option Value} {base : Heap} {CX : CXT}
theorem Fun.okG {x qual : Str} {st : Stmt} {f : Addr} {fd : FuncData} {N ps : List Str} {k : Nat} {sp : Sp} (F : Fun K x qual st f fd) (S : FnScope N ps (defScope st)) (len : ∀ vs H Q E, sp vs H Q E → vs.length = ps.length)
    (hbody : ∀ (cdv : Value) (A : Around) (outer : List Env) (s : Shared) (H : Hp) (vs : List V) (Q : VK) (E : XK), Room k (A.deeper (envOfC qual (defScope st) s.heap.objs.size f cdv)) → (A.deeper (envOfC qual (defScope st) s.heap.objs.size f cdv)).guards = some [] → sp vs H Q E →
      ∃ t, PSs (cxOf CX0 P w K mg base N qual (defScope st) f cdv A outer s H E).nox (defBody st) t ∧ t { nx := fun _ H' => Q .non H', rt := Q } (start N vs) H) : FnG P w K mg base CX0 (k + 1) f fd ps sp := by
  obtain ⟨oc, od, kV, doc, pm, an, cdv, ct, osl, rfl, lk, hcd⟩ := F.ex
  refine ⟨len, fun A outer s H args us vs Q E room hG env0 bind rel want => ?_⟩
  have inK : K.In s.heap := env0.mod.kin.keeps fun b o z => (env0.bs b o z).1
  have noLim : s.heap.NoLimit := env0.mod.nolimit.keeps fun b o z => (env0.bs b o z).1
  have kinds : ∀ y ∈ ps.zip us, (defScope st).names.lookup y.1 = some .local ∨ ((defScope st).names.lookup y.1 = some .cell ∧ ((cellsFrom (s.heap.objs.size + 1) (defScope st).names []).lookup y.1).isSome = true) := by
    rintro ⟨x', v'⟩ hy
    exact (S.par x' (List.of_mem_zip hy).1).elim (fun z => .inl z) fun z => .inr ⟨z, PySem.W.cellsFrom_some _ _ _ (.inl z)⟩
  refine codeAny_call_function room.depth (inK _ _ lk) rfl S.co S.gen rfl (PySem.W.codeRec_of inK hcd) (bind _ _ _ _ ?_)
  refine wpAny_newFunctionEnv_cells S.kind kinds fun env' isEnv s2 made => ?_
  subst isEnv
  refine ⟨noLim.keeps made.toInCall.keep, codeAny_func ?_⟩
  obtain ⟨t, derived, reading⟩ := hbody cdv A outer s H vs Q E (room.deeper _) hG want
  have inv : Inv (cxOf CX0 P w K mg base N qual (defScope st) f cdv A outer s H E) [] (start N vs) H s2 := inv_start S room.hd env0 (len _ _ _ _ want) rel made
  refine wpAny_mono (derived.nox.run [] s2 (start N vs) H _ inv reading) (fun flow s3 out => ?_) fun _ _ z => z
  have back : ∀ {σ3 : Sl} {H3 : Hp} {v3 : V} {u3 : Value}, Inv (cxOf CX0 P w K mg base N qual (defScope st) f cdv A outer s H E) [] σ3 H3 s3 → RelV v3 u3 → Q v3 H3 → CE outer P w H s Q u3 s3 := fun J rv3 q3 => ⟨_, _, J.os, J.bare, J.base, J.hok, rv3, q3⟩
  match flow, out with
  | .ret u3, ⟨v3, σ3, H3, J, rv3, q3⟩ => exact back J rv3 q3
  | .next, ⟨σ3, H3, J, q3⟩ => exact back (v3 := V.non) (u3 := Value.none) J rfl q3
  | .brk, ⟨_, _, _, q3⟩ => exact q3.elim
  | .cont, ⟨_, _, _, q3⟩ => exact q3.elim
end
section
variable {X : Cx} {CX : CXT} {k : Nat} {f : Addr} {fd : FuncData} {ps : List Str} {sp : Sp} {E : XK} {x : Str} {p pos : Pos} {e : Expr} {es : List Expr} {t : TA}
/-- f(e, ..), f such a def -/
theorem pe_callG (F : FnG X.prog X.w X.K X.mg X.base CX k f fd ps sp) (hr : Room k X.A) (hG : X.A.guards = some []) (hg : Gl X x) (hm : X.mg x = some (.ref f)) (hk : PySem.W.keepIn X.K (.ref f) = true) (hb : Binds X.K fd ps []) (hx : Passes CX X E) (ha : PA X (e :: es) t)
    (hdb : (x == ("__debug__" : Str)) = false := by decide) (he : starEach (e :: es) X.env = (false, eval e X.env) :: starEach es X.env := by rfl) (hpl : (backTo pos (starEach es X.env)).any (·.1) = false := by rfl) : PE X (.Call (.Name x p) (e :: es) [] pos) (tCall sp [] E t) := by
  refine ⟨fun pins s σ H Q I h => wpAny_Call_Name_kw (ld_glob I hg hm ?_ hdb)⟩
  refine PySem.W.callWith_K (h₀ := X.base) I.ok.mod.kin hk (thn (ha.run pos pins s σ H _ I h) fun us s1 ⟨vs, H1, I1, r, q⟩ => ⟨I1.kIn, ?_⟩) he hpl
  have q0 : sp vs H1 Q E := by simpa using q
  have le : us.length = ps.length := by rw [← r.length]; exact F.len _ _ _ _ q0
  have bd : BindsTo s1 fd ⟨us, []⟩ (ps.zip us) := by simpa using hb s1 us I1.kIn (by simpa using le)
  refine wpAny_call (codeAny_mono (F.run X.A X.stack s1 H1 ⟨us, []⟩ us vs Q E hr hG I1.env0 bd r q0) fun res s2 out => ?_)
  match res, out with
  | .error _, out => exact hx pins σ H1 s1 _ s2 I1 out
  | .ok (.ret _), out => exact I1.after out
  | .ok .next, out => exact out.elim
  | .ok .brk, out => exact out.elim
  | .ok .cont, out => exact out.elim
end
/-! ### the law's call: no repr runs around it -/
section
variable {P : Program} {w : World} {K : PySem.W.Frag} {mg mb : Str → Option Value} {k : Nat} {fa a : Addr} {fd : FuncData} {x : Str} {sp : Sp} {s₁ : Shared} {vs : List Value} {ns : List Int}
/-- from a heap in which the script alone may be tracked -/
theorem law_from {H : Hp} (inK : K.In s₁.heap) (hmod : s₁.heap.Ns mainGlobals mg) (hblt : s₁.heap.Ns builtinsNs mb) (hall : ∀ x : Str, x ≠ "__name__" → mb x = bootBuiltins x) (hlim : s₁.heap.NoLimit) (gens : s₁.gens = #[])
    (ha : s₁.heap.get? a = some { cls := .type "list", data := .seq vs.toArray }) (room : Room k callerA) (F : ∀ base : Heap, K.In base → base.Ns mainGlobals mg → FnG P w K mg base CX0 k fa fd [x] sp)
    (hbind : ∀ (s : Shared) (u : Value), BindsTo s fd ⟨[u], []⟩ [(x, u)]) (only : Only H) (want : sp [.ref a] H (fun v _ => v = .bl true) fun _ _ _ => False) (hok : HOk P w H s₁.heap)
    (just : ∀ b, H b ≠ none → b = a) (free : H a ≠ none → K.lookup a = none) :
    codeAny (model P w) callerA (.call (.ref fa) ⟨[.ref a], []⟩) (fun r s' => r = .ok (.ret (.bool true)) ∧ OldK s₁.heap s'.heap ∧ s'.os = s₁.os ∧ AllBare s'.gens) s₁ := by
  have atA : ∀ {b : Addr} {u : HO}, H b = some u → b = a := fun {b u} z => just b (by rw [z]; exact Option.some_ne_none u)
  have dictFree : ∀ {b : Addr} {o : Obj} {es : Array DictEntry} {n : Nat}, s₁.heap.get? b = some o → o.data = .dict es n → H b = none := by
    intro b o es n z1 z2
    match hb : H b with
    | none => rfl
    | some u =>
      obtain rfl := atA hb
      rw [ha] at z1
      obtain rfl := Option.some.inj z1
      exact nomatch z2
  have nsUp : ∀ {b : Addr} {m : Str → Option Value}, s₁.heap.Ns b m → (hidT s₁.heap H).Ns b m := by
    rintro b m ⟨o, es, n, z1, z2, z3⟩
    exact ⟨o, es, n, hidT_get z1 (dictFree z1 z2), z2, z3⟩
  have inKb : K.In (hidT s₁.heap H) := by
    intro b o z
    refine hidT_get (inK b o z) ?_
    match hb : H b with
    | none => rfl
    | some u =>
      obtain rfl := atA hb
      rw [free (by rw [hb]; exact Option.some_ne_none u)] at z
      exact nomatch z
  obtain ⟨mc, c1, c2⟩ := hlim
  have env0 : Env0 P w K mg (hidT s₁.heap H) callerA [] s₁ H :=
    ⟨rfl, ⟨inKb, nsUp hmod, ⟨mb, nsUp hblt, hall⟩, ⟨mc, nsUp c1, c2⟩⟩, fun b o z => of_hidT z, Nat.le_of_eq (hidT_size _ _), trivial, fun b z => absurd z (by exact List.not_mem_nil), hok, .of_eq gens⟩
  refine codeAny_mono ((F _ inKb (nsUp hmod)).run callerA [] s₁ H ⟨[.ref a], []⟩ [.ref a] [.ref a] _ _ room rfl env0 (hbind s₁ (.ref a)) (.cons rfl .nil) want) fun res s2 out => ?_
  match res, out with
  | .error _, out => exact out.elim
  | .ok .next, out => exact out.elim
  | .ok .brk, out => exact out.elim
  | .ok .cont, out => exact out.elim
  | .ok (.ret u), ⟨v, H2, os2, bare2, un2, hok2, rel2, (ev : v = .bl true)⟩ =>
    subst ev
    obtain rfl : u = Value.bool true := rel2
    refine ⟨rfl, OldK.of_keep fun b o z => ?_, os2, bare2⟩
    match hb : H b with
    | none => exact un2.keep b o z hb (fun y => absurd y (by exact List.not_mem_nil)) (by exact List.not_mem_nil)
    | some u =>
      rcases only b with y | ⟨ob, xs, y⟩
      · rw [hb] at y
        exact nomatch y
      · obtain ⟨z1, _⟩ := hok b _ y
        obtain ⟨z2, _⟩ := hok2 b _ (un2.frzs b ob _ y)
        rw [z] at z1
        obtain rfl := Option.some.inj z1
        exact z2
theorem law_go (inK : K.In s₁.heap) (hmod : s₁.heap.Ns mainGlobals mg) (hblt : s₁.heap.Ns builtinsNs mb) (hall : ∀ x : Str, x ≠ "__name__" → mb x = bootBuiltins x) (hlim : s₁.heap.NoLimit) (gens : s₁.gens = #[])
    (ha : s₁.heap.get? a = some { cls := .type "list", data := .seq vs.toArray }) (hi : IntsAre vs ns) (hl : ns.length ≤ sizeLine) (room : Room k callerA) (F : ∀ base : Heap, K.In base → base.Ns mainGlobals mg → FnG P w K mg base CX0 k fa fd [x] sp)
    (hbind : ∀ (s : Shared) (u : Value), BindsTo s fd ⟨[u], []⟩ [(x, u)]) (want : ∀ H : Hp, Only H → SqL K H a (ns.map V.int) → sp [.ref a] H (fun v _ => v = .bl true) fun _ _ _ => False) :
    codeAny (model P w) callerA (.call (.ref fa) ⟨[.ref a], []⟩) (fun r s' => r = .ok (.ret (.bool true)) ∧ OldK s₁.heap s'.heap ∧ s'.os = s₁.os ∧ AllBare s'.gens) s₁ := by
  have rv := vals_ints hi
  match hk : K.lookup a with
  | some o =>
    have z := inK a o hk
    rw [ha] at z
    obtain rfl := Option.some.inj z
    refine law_from (H := fun _ => none) inK hmod hblt hall hlim gens ha room F hbind (fun _ => .inl rfl) (want _ (fun _ => .inl rfl) (.inr ⟨_, vs.toArray, _, hk, rfl, rfl, rfl, ?_, by simpa using rv⟩)) (fun b u y => nomatch y) (fun b y => absurd rfl y) fun y => absurd rfl y
    rw [List.size_toArray, hi.length]
    exact hl
  | none =>
    let H0 : Hp := fun b => if b = a then some (.frz { cls := .type "list", data := .seq vs.toArray } (.lst (ns.map V.int))) else none
    have at0 : H0 a = some (.frz { cls := .type "list", data := .seq vs.toArray } (.lst (ns.map V.int))) := if_pos rfl
    have off : ∀ {b : Addr}, b ≠ a → H0 b = none := fun n => if_neg n
    have o0 : Only H0 := fun b => by
      by_cases n : b = a
      · exact .inr ⟨_, _, if_pos n⟩
      · exact .inl (off n)
    refine law_from (H := H0) inK hmod hblt hall hlim gens ha room F hbind o0 (want H0 o0 (.inl (.inr ⟨_, at0⟩))) (fun b u y => ?_) (fun b y => ?_) fun _ => hk
    · by_cases n : b = a
      · subst n
        rw [at0] at y
        obtain rfl := Option.some.inj y
        exact ⟨ha, by rw [List.length_map]; exact hl, vs, _, rv, ha⟩
      · rw [off n] at y
        exact nomatch y
    · by_cases n : b = a
      · exact n
      · exact absurd (off n) y
end
theorem walk_G {l : PySem.W.OpenLaw} {n k : Nat} {q : Program} {loose : List Str} {XP : (Str → Option Value) → Heap → Prop} {YP : World → Heap → Prop} {d : DefRec} {K : Params → PySem.W.Frag} {sp : World → Sp} {x : Str} (hn : l.most = some n) (hn2 : n ≤ sizeLine)
    (hdf : d.params.defaults = []) (room : Room k callerA) (hY : ∀ (w : World) (h : Heap), YP w h → (K w.params).In h)
    (F : ∀ (w : World) (mg : Str → Option Value) (fa : Addr) (h : Heap), (K w.params).In h → h.Ns mainGlobals mg → mg d.name = some (.ref fa) → ∃ fd : FuncData, (∀ (s : Shared) (u : Value), BindsTo s fd ⟨[u], []⟩ [(x, u)]) ∧
      ∀ base : Heap, (K w.params).In base → base.Ns mainGlobals mg → FnG l.prog w (K w.params) mg base CX0 k fa fd [x] (sp w))
    (want : ∀ (w : World) (H : Hp) (a : Addr) (ns : List Int), ns.length ≤ n → Only H → SqL (K w.params) H a (ns.map V.int) → sp w [.ref a] H (fun v _ => v = .bl true) fun _ _ _ => False) :
    PySem.W.WalkO q loose XP YP l.row.toRowW d [] (fun f vs => PySem.call f vs) := by
  refine Att.attach_call hn hdf fun w s₀ s₁ mg mb fa o pm cd doc a vs ns G Y ho hd hcd hmg hobj hints hlen hg => ?_
  obtain ⟨fd, hb, hF⟩ := F w mg fa _ (hY w _ Y) G.T.g hmg
  exact law_go (hY w _ Y) G.T.g G.T.b G.T.builtins G.T.nolimit hg hobj hints (Nat.le_trans hlen hn2) room hF hb fun H o1 o2 => want w H a ns hlen o1 o2
end WH
namespace WH
open PySem PySem.Spec PyProof.Rows L2
/-! ### how long a repr can be -/
theorem fits2 {d : PyData} (hl : d.leavesShort 2000 = true) (hw : d.weight ≤ 8000) : d.shown.length ≤ sizeLine := by
  have h1 := PyData.shown_le 2000 (by decide) d hl
  have h2 : (2000 + 2) * d.weight ≤ 2002 * 8000 := Nat.mul_le_mul_left _ hw
  rw [sizeLine_eq]
  omega
theorem short_str {x : Str} (h : PyData.strOk x = true) : PyData.leavesShort 2000 (.str x) = true := by
  unfold PyData.strOk at h
  rw [← Array.all_toList, List.all_eq_true] at h
  simp only [PyData.leavesShort]
  rw [List.all_eq_true]
  intro c hc
  have := of_decide_eq_true (h c hc)
  exact decide_eq_true (by omega)
theorem short_strs : ∀ {ws : List Str}, SOk ws → PyData.leavesShortAll 2000 (dStrs ws) = true
  | [], _ => by simp [dStrs, PyData.leavesShortAll]
  | x :: r, h => by
    have ih := short_strs (ws := r) fun y hy => h y (List.mem_cons_of_mem _ hy)
    have hx := short_str (h x List.mem_cons_self)
    unfold dStrs at ih ⊢
    rw [List.map_cons]
    simp only [PyData.leavesShortAll, hx, ih, Bool.and_self]
theorem weight_strs (m : Nat) : ∀ {ws : List Str}, (∀ x ∈ ws, x.length ≤ m) → PyData.weightAll (dStrs ws) ≤ ws.length * (m + 2)
  | [], _ => by simp [dStrs, PyData.weightAll]
  | x :: r, h => by
    have ih := weight_strs m (ws := r) fun y hy => h y (List.mem_cons_of_mem _ hy)
    have hx : x.cps.size ≤ m := h x List.mem_cons_self
    unfold dStrs at ih ⊢
    rw [List.map_cons]
    simp only [PyData.weightAll, PyData.weight, List.length_cons, Nat.add_mul]
    omega
theorem showable_strs : ∀ {ws : List Str}, PyData.showableAll (dStrs ws) = true
  | [] => by simp [dStrs, PyData.showableAll]
  | x :: r => by
    have ih := showable_strs (ws := r)
    unfold dStrs at ih ⊢
    rw [List.map_cons]
    simp only [PyData.showableAll, PyData.showable, ih, Bool.and_self]
theorem nodict_strs : ∀ {ws : List Str}, PyData.hasDictAll (dStrs ws) = false
  | [] => by simp [dStrs, PyData.hasDictAll]
  | x :: r => by
    have ih := nodict_strs (ws := r)
    unfold dStrs at ih ⊢
    rw [List.map_cons]
    simp only [PyData.hasDictAll, PyData.hasDict, ih, Bool.or_self]
/-- what repr asks of a list of texts -/
theorem repr_strs {K : PySem.W.Frag} {H : Hp} {a : Addr} {ws : List Str} (h : SqL K H a (ws.map V.str)) (sok : SOk ws) (m : Nat) (hm : ∀ x ∈ ws, x.length ≤ m) (hw : ws.length * (m + 2) ≤ 7000) :
    Dp K H (.ref a) (.list (dStrs ws)) ∧ (PyData.list (dStrs ws)).showable = true ∧ (PyData.list (dStrs ws)).hasDict = false ∧ (PyData.list (dStrs ws)).depth ≤ 60 ∧ (PyData.list (dStrs ws)).shown.length ≤ sizeLine := by
  have hd := depth_strs ws
  have hwt := weight_strs m hm
  refine ⟨dp_lst h, by simp only [PyData.showable, showable_strs], by simp only [PyData.hasDict, nodict_strs], ?_, fits2 ?_ ?_⟩
  · simp only [PyData.depth]
    omega
  · simp only [PyData.leavesShort, short_strs sok]
  · simp only [PyData.weight]
    omega
end WH
set_option maxHeartbeats 2000000
namespace WH
open PySem PySem.Spec PyProof.Rows L2 PySem.W PySem.Calls
/-! ### isinstance of a caught error that has fields -/
section
variable {prog : Program} {w : World} {A : Around} {E : Value → Shared → Prop} {s : Shared} {K : PySem.W.Frag} {x D : Addr} {ox : Obj} {od : Option Obj}
theorem data_first {name : Str} {a g : Value} (hc : (clsIn K D).isSome = true) (ha : findIn K (.ref D) name = some (some a)) (hg : specialIn K a "__get__" = some (some g)) (ht : takesIn K a = some true) : findObj K D od name = some (.bind g a) := by
  obtain ⟨cd, hc⟩ := Option.isSome_iff_exists.mp hc
  unfold findObj
  rw [hc, Option.bind_some, ha, Option.bind_some]
  simp [hg, ht]
theorem err_class {Q : Option Value → Shared → Prop} (T : ExcC K D) (X : K.In s.heap) (I : InstAt s.heap x ox D od) (h : Q (some (.ref D)) { s with toks := s.toks + 1 }) : wpAny (model prog w) A (getAttr? (.ref x) "__class__") Q E s := by
  have hf : findObj K D od "__class__" = some (.bind (.builtin "getset_descriptor.__get__") (.builtin "object.__class__")) := data_first (by obtain ⟨cd, hc, _⟩ := any_some T.hd; rw [hc]; rfl) T.ha T.hn T.ht
  obtain ⟨hp, g, d, t, os⟩ := s
  have T0 := I.type (M := model prog w)
  have T1 := looks_findIn (M := model prog w) X T.hg
  have T2 := looks_findIn (M := model prog w) X T.hk
  have T3 := looks_find (M := model prog w) X I hf
  have isB : Looks (model prog w) hp (isInstance (.ref x) (.type "BaseException")) true := T0.andThen (looks_subIn X T.hs)
  have n0 : (false && onTheHeap (Value.builtin "BaseException.__getattribute__")) = false := rfl
  have n2 : (Value.builtin "BaseException.__getattribute__" == Value.builtin "object.__getattribute__") = false := by decide +kernel
  have n1 : (onTheHeap (Value.ref D) && Value.builtin "BaseException.__getattribute__" == Value.builtin "object.__getattribute__") = false := by rw [n2]; rfl
  unfold getAttr? getAttrBy? getAttrBy
  refine wpAny_bind (wpAny_mkText (wpAny_bind (wpAny_attempt (wpAny_holding (wpAny_bind (T0.at (wpAny_bind (T1.at ?_))))))))
  show wpAny _ _ (if (onTheHeap (Value.ref D) && Value.builtin "BaseException.__getattribute__" == Value.builtin "object.__getattribute__") = true then _ else _) _ _ _
  rw [n1, if_neg Bool.false_ne_true]
  unfold getAttrByItsOwn hookBefore
  refine wpAny_bind ?_
  rw [if_pos (show onTheHeap (Value.ref D) = true from rfl)]
  refine T2.at (wpAny_bind (wpAny_attempt (wpAny_holding ?_)))
  unfold callGetattribute
  rw [n0, if_neg Bool.false_ne_true]
  unfold boundAndCalled
  rw [PySem.F.excAttr_ValueError.ga.bind (.ref x)]
  refine wpAny_bind (wpAny_pure ?_)
  show wpAny _ _ (PySem.call (.builtin "BaseException.__getattribute__") [.ref x, .str "__class__" t]) _ _ _
  refine wpAny_call (codeAny_call_builtin PySem.F.excAttr_ValueError.ga.plain PySem.F.entry_bexc_ga ?_)
  refine @check_slot (model prog w) _ _ ⟨hp, g, d, t + 1, os⟩ "BaseException.__getattribute__" "BaseException" "__getattribute__" (.ref x) [.str "__class__" t] [] _ (by decide +kernel) (by decide +kernel) isB (PySem.F.args_bexc_ga (.ref x) (.str "__class__" t)) ?_
  unfold Builtin.«object.__getattribute__»
  refine wpAny_bind (wpAny_of_eq (a := ((Value.ref x : Value), [Value.str "__class__" t])) (by first | rfl | (simp only [slotArgs]; rfl)) ?_)
  refine wpAny_bind (wpAny_pure (wpAny_bind (T0.at (wpAny_bind (T3.at ?_)))))
  show wpAny _ _ (holding [Value.builtin "object.__class__"] (PySem.call (.builtin "getset_descriptor.__get__") [.builtin "object.__class__", .ref x, .ref D]) >>= ret) _ _ _
  refine wpAny_bind (wpAny_holding (wpAny_call (class_get (s := ⟨hp, g, d, t + 1, os⟩) (ox := ox) (od := od) X I T.hm ?_)))
  refine wpAny_pure ?_
  show wpAny _ _ (handedOut (.ref D)) _ _ _
  rw [handedOut_of (v := .ref D) rfl]
  first
    | exact wpAny_pure (wpAny_pure h)
    | exact wpAny_pure h
    | exact wpAny_pure (wpAny_bind (wpAny_pure (wpAny_pure h)))
theorem err_kit (T : ExcC K D) : KitX K (.ref x) (.ref D) (fun h => InstAt h x ox D od) where
  ty := fun _ _ _ I => I.type
  it := fun M h X _ A' Q' E' s' keep q => by
    obtain ⟨cd, hcd, _⟩ := any_some T.hd
    unfold clsIn at hcd
    split at hcd
    · rename_i c1 d1 cd1 l1 hl
      unfold isType loadHead
      exact wpAny_bind (wpAny_loadPart (keep _ _ (X _ _ hl)) (wpAny_pure q))
    · exact nomatch hcd
  ne := fun h tp dd its n sl X htp => (handS_kitx_exc (x := x) (ox := ox) T.hg T.hk T.hs T.hd T.ha T.hn T.ht T.hm).ne h tp dd its n sl X htp
  ca := fun X I k => err_class T X I k
end
section
variable {X : Cx} {a : Addr} {oe : Obj} {cls : Value} {d : Option Addr} {pn : List (Addr × Obj)}
/-- the caught error at a, its class D, its own dict -/
theorem err_at {pins : List (Addr × Obj)} {s : Shared} {σ : Sl} {H : Hp} {D dd : Addr} {fs : List (Str × V)} (I : Inv (X.suite a ((a, oe) :: pn)) pins σ H s) (hz : Zc (.ref D) (some dd) oe) (hf : ∃ vs, oe.data = .fields vs) (hd : H dd = some (.xd fs)) :
    ∃ od, InstAt s.heap a oe D (some od) := by
  obtain ⟨hget, _⟩ := I.pin (a, oe) (List.mem_append.mpr (.inl List.mem_cons_self))
  obtain ⟨vs, hv⟩ := hf
  obtain ⟨mA, hns, _⟩ := (show ObjOk X.prog X.w H s.heap dd (.xd fs) from I.hok dd _ hd)
  obtain ⟨od, ho, _⟩ := lookIn_ns hns
  exact ⟨od, hget, hz.1, by unfold notCls; rw [hv] <;> rfl, by rw [hz.2]; exact ho⟩
/-- isinstance(e, c) -/
def rIsX (K : PySem.W.Frag) (a : Addr) (cls : Value) (d : Option Addr) : List V → Hp → VK → Prop := fun xs H Q => ∃ (D dd : Addr) (fs : List (Str × V)) (c : V) (cv : Value) (b : Bool), cls = .ref D ∧ d = some dd ∧ ExcC K D ∧ H dd = some (.xd fs) ∧ xs = [.ref a, c] ∧ ClsV c cv ∧ kitOne K (.ref D) cv = some b ∧ Q (.bl b) H
theorem call_isX (hz : Zc cls d oe) (hf : ∃ vs, oe.data = .fields vs) : CallR (X.suite a ((a, oe) :: pn)) (.builtin "isinstance") (rIsX X.K a cls d) := by
  intro pins s σ H xs us Q I r h
  obtain ⟨D, dd, fs, c, cv, b, rfl, rfl, T, hd, rfl, hc, e, q⟩ := h
  obtain ⟨u1, u2, rfl, r1, r2⟩ := vals2 r
  obtain rfl : u1 = Value.ref a := r1
  have ec := hc.eq r2
  subst ec
  obtain ⟨od, J⟩ := err_at I hz hf hd
  exact kia_one (err_kit T) I.kIn J e (fun z => nomatch z) fun tk => ⟨.bl b, H, I.kept (t' := tk) fun _ _ z => z, rfl, q⟩
/-- isinstance(e, (c, ..)) -/
def rIsXT (K : PySem.W.Frag) (a : Addr) (cls : Value) (d : Option Addr) : List V → Hp → VK → Prop := fun xs H Q => ∃ (D dd tp : Addr) (fs : List (Str × V)) (cs : List V) (cvs : List Value) (b : Bool), cls = .ref D ∧ d = some dd ∧ ExcC K D ∧ H dd = some (.xd fs) ∧ xs = [.ref a, .ref tp] ∧ H tp = some (.tup cs) ∧
  Paired ClsV cs cvs ∧ kitAny K (.ref D) cvs = some b ∧ Q (.bl b) H
theorem call_isXT (hz : Zc cls d oe) (hf : ∃ vs, oe.data = .fields vs) : CallR (X.suite a ((a, oe) :: pn)) (.builtin "isinstance") (rIsXT X.K a cls d) := by
  intro pins s σ H xs us Q I r h
  obtain ⟨D, dd, tp, fs, cs, cvs, b, rfl, rfl, T, hd, rfl, hT, hc, e, q⟩ := h
  obtain ⟨u1, u2, rfl, r1, r2⟩ := vals2 r
  obtain rfl : u1 = Value.ref a := r1
  obtain rfl : u2 = Value.ref tp := r2
  obtain ⟨od, J⟩ := err_at I hz hf hd
  obtain ⟨_, its, rv, o, h1, h2, n, h3⟩ := (show ObjOk X.prog X.w H s.heap tp (.tup cs) from I.hok tp _ hT)
  have e3 := ClsV.all hc rv
  subst e3
  obtain ⟨oc, oe', dt, sl⟩ := o
  simp only at h2 h3
  subst h2 h3
  exact kia_tup (err_kit T) I.kIn J h1 e (fun z => nomatch z) fun tk => ⟨.bl b, H, I.kept (t' := tk) fun _ _ z => z, rfl, q⟩
end
end WH
namespace WH
open PySem PySem.Spec PyProof.Rows L2
section
variable {X : Cx} {CX : CXT} {k : Nat} {f : Addr} {fd : FuncData} {ps ks : List Str} {sp : Sp} {E : Sl → XK} {x : Str} {p pos : Pos} {kws : List Keyword} {tk : TA} {g : List Value → List Value → List Value} {gV : List V → List V → List V}
/-- f(k = v, ..) within a try -/
def tCallKS (sp : Sp) (gV : List V → List V → List V) (E : Sl → XK) (tk : TA) : TE := fun σ H Q => tk σ H fun zs H1 => sp (gV [] zs) H1 Q (E σ)
theorem pe_callK0S (F : FnOk X.prog X.w X.K X.mg X.base CX k f fd ps sp) (hr : Room k X.A) (hg : Gl X x) (hm : X.mg x = some (.ref f)) (hk : PySem.W.keepIn X.K (.ref f) = true) (hb : KBinds X.K fd ps ks g gV) (hx : ∀ σ, PassesAt CX X σ (E σ)) (hkw : PK X kws tk)
    (hall : (backToKw pos (keywordEach kws X.env)).all (·.1.isSome) = true := by rfl) (hks : (backToKw pos (keywordEach kws X.env)).filterMap (·.1) = ks := by rfl) (hdb : (x == ("__debug__" : Str)) = false := by decide)
    (hpl : ((backTo pos (starEach [] X.env)).any (·.1) || (backToKw pos (keywordEach kws X.env)).any (·.1.isNone)) = false := by rfl) : PE X (.Call (.Name x p) [] kws pos) (tCallKS sp gV E tk) := by
  refine ⟨fun pins s σ H Q I h => wpAny_Call_Name_kw (ld_glob I hg hm ?_ hdb)⟩
  refine PySem.W.callWith_KW0 (h₀ := X.base) I.ok.mod.kin hk hall ?_ hpl
  refine thn (hkw.run pos pins s σ H _ I h) fun ws s2 ⟨zs, H2, I2, rz, q2⟩ => ⟨I2.kIn, ?_⟩
  rw [hks]
  have rel := hb.rel (vs := []) (us := []) .nil rz
  have le : (g [] ws).length = ps.length := by rw [← rel.length]; exact F.len _ _ _ _ q2
  refine wpAny_call (codeAny_mono (F.run X.A X.stack s2 H2 ⟨[], ks.zip ws⟩ (g [] ws) (gV [] zs) Q (E σ) hr I2.env0 (hb.to s2 [] ws I2.kIn le) rel q2) fun res s3 out => ?_)
  match res, out with
  | .error _, out => exact hx σ pins H2 s2 _ s3 I2 out
  | .ok (.ret _), out => exact I2.after out
  | .ok .next, out => exact out.elim
  | .ok .brk, out => exact out.elim
  | .ok .cont, out => exact out.elim
end
end WH
namespace WH
open PySem PySem.Spec PyProof.Rows L2
/-- isinstance against an own class, by subIn -/
theorem kit_ref {K : PySem.W.Frag} {D C : Addr} {b : Bool} (hc : PySem.W.isClsIn K C = true) (ht : PySem.W.typeIn K (.ref C) = some (.type "type")) (hs : PySem.W.subIn K (.ref D) (.ref C) = some b) (hn : b = true ∨ D ≠ C) : PySem.W.kitOne K (.ref D) (.ref C) = some b := by
  unfold PySem.W.kitOne
  by_cases e : D = C
  · have hb : b = true := hn.elim id fun z => absurd e z
    subst e
    rw [if_pos (by simp), hb]
  · rw [if_neg (by simp [e])]
    unfold PySem.W.kitCls
    have hc' : (PySem.W.clsIn K C).isSome = true := hc
    have h : ((PySem.W.clsIn K C).isSome && PySem.W.typeIn K (.ref C) == some (.type "type")) = true := by rw [hc', ht]; rfl
    dsimp only
    rw [if_pos h]
    exact hs
theorem kit_any {K : PySem.W.Frag} {t : Value} : ∀ {cs : List Value}, (∀ c ∈ cs, PySem.W.kitOne K t c = some false) → PySem.W.kitAny K t cs = some false
  | [], _ => rfl
  | c :: r, h => by
    unfold PySem.W.kitAny
    rw [h c List.mem_cons_self]
    exact kit_any fun x hx => h x (List.mem_cons_of_mem _ hx)
theorem kit_VE {K : PySem.W.Frag} {D : Addr} {b : Bool} (hs : PySem.W.subIn K (.ref D) (.type "ValueError") = some b) : PySem.W.kitOne K (.ref D) (.type "ValueError") = some b := by
  unfold PySem.W.kitOne PySem.W.kitCls
  rw [if_neg (by simp)]
  dsimp only
  rw [if_pos (by decide +kernel)]
  exact hs
theorem kit_self {K : PySem.W.Frag} {D : Addr} : PySem.W.kitOne K (.ref D) (.ref D) = some true := by
  unfold PySem.W.kitOne
  rw [if_pos (by simp)]
end WH
set_option maxHeartbeats 2000000
namespace WH
open PySem PySem.Spec PyProof.Rows L2 PySem.W PySem.Calls
/-! ### a def of the law that is called with the caught error, in an except suite -/
/-- what is known of the caught error's object -/
structure Got (q : Addr × Obj) (cls : Value) (d : Option Addr) : Prop where
  z : Zc cls d q.2
  f : ∃ vs, q.2.data = .fields vs
structure FnP (P : Program) (w : World) (K : PySem.W.Frag) (mg : Str → Option Value) (base : Heap) (k : Nat) (f : Addr) (fd : FuncData) (ps : List Str) (sp : Addr → Value → Option Addr → Sp) : Prop where
  len : ∀ a c d vs H Q E, sp a c d vs H Q E → vs.length = ps.length
  run : ∀ (A : Around) (outer : List Env) (s : Shared) (H : Hp) (args : Args) (us : List Value) (vs : List V) (Q : VK) (E : XK) (q : Addr × Obj) (c : Value) (d : Option Addr), Got q c d → L2H.RoomH k A → L2H.PinOk outer H s q →
    Env0 P w K mg base A outer s H → BindsTo s fd args (ps.zip us) → Vals vs us → sp q.1 c d vs H Q E → codeAny (model P w) A (.call (.ref f) args) (CR CX0 outer P w H s Q E) s
section
variable {P : Program} {w : World} {K : PySem.W.Frag} {mg : Str → Option Value} {base : Heap}
theorem Fun.okP {x qual : Str} {st : Stmt} {f : Addr} {fd : FuncData} {N ps : List Str} {k : Nat} {sp : Addr → Value → Option Addr → Sp} (F : Fun K x qual st f fd) (S : FnScope N ps (defScope st)) (len : ∀ a c d vs H Q E, sp a c d vs H Q E → vs.length = ps.length)
    (hbody : ∀ (cdv : Value) (A : Around) (outer : List Env) (s : Shared) (H : Hp) (vs : List V) (Q : VK) (E : XK) (q : Addr × Obj) (c : Value) (d : Option Addr), Got q c d → L2H.RoomH k (A.deeper (envOfC qual (defScope st) s.heap.objs.size f cdv)) → sp q.1 c d vs H Q E →
      ∃ t, PSs (L2H.cxH CX0 P w K mg base N qual (defScope st) f cdv A outer s H E q) (defBody st) t ∧ t { nx := fun _ H' => Q .non H', rt := Q } (start N vs) H) : FnP P w K mg base (k + 1) f fd ps sp := by
  obtain ⟨oc, od, kV, doc, pm, an, cdv, ct, osl, rfl, lk, hcd⟩ := F.ex
  refine ⟨len, fun A outer s H args us vs Q E q c d got room pin env0 bind rel want => ?_⟩
  have inK : K.In s.heap := env0.mod.kin.keeps fun b o z => (env0.bs b o z).1
  have noLim : s.heap.NoLimit := env0.mod.nolimit.keeps fun b o z => (env0.bs b o z).1
  have kinds : ∀ y ∈ ps.zip us, (defScope st).names.lookup y.1 = some .local ∨ ((defScope st).names.lookup y.1 = some .cell ∧ ((cellsFrom (s.heap.objs.size + 1) (defScope st).names []).lookup y.1).isSome = true) := by
    rintro ⟨x', v'⟩ hy
    exact (S.par x' (List.of_mem_zip hy).1).elim (fun z => .inl z) fun z => .inr ⟨z, PySem.W.cellsFrom_some _ _ _ (.inl z)⟩
  refine codeAny_call_function room.depth (inK _ _ lk) rfl S.co S.gen rfl (PySem.W.codeRec_of inK hcd) (bind _ _ _ _ ?_)
  refine wpAny_newFunctionEnv_cells S.kind kinds fun env' isEnv s2 made => ?_
  subst isEnv
  refine ⟨noLim.keeps made.toInCall.keep, codeAny_func ?_⟩
  obtain ⟨t, derived, reading⟩ := hbody cdv A outer s H vs Q E q c d got (room.deeper _) want
  have inv := L2H.inv_startH (CX := CX0) (E := E) S pin env0 (len _ _ _ _ _ _ _ want) rel made
  refine wpAny_mono (derived.run [] s2 (start N vs) H _ inv reading) (fun flow s3 out => ?_) fun _ _ z => z
  have back : ∀ {σ3 : Sl} {H3 : Hp} {v3 : V} {u3 : Value}, Inv (L2H.cxH CX0 P w K mg base N qual (defScope st) f cdv A outer s H E q) [] σ3 H3 s3 → RelV v3 u3 → Q v3 H3 → CE outer P w H s Q u3 s3 := fun J rv3 q3 => ⟨_, _, J.os, J.bare, J.base, J.hok, rv3, q3⟩
  match flow, out with
  | .ret u3, ⟨v3, σ3, H3, J, rv3, q3⟩ => exact back J rv3 q3
  | .next, ⟨σ3, H3, J, q3⟩ => exact back (v3 := V.non) (u3 := Value.none) J rfl q3
  | .brk, ⟨_, _, _, q3⟩ => exact q3.elim
  | .cont, ⟨_, _, _, q3⟩ => exact q3.elim
end
theorem roomH_of {k : Nat} {A : Around} (r : Room k A) (h : Option Value) : L2H.RoomH k (A.mark h) := ⟨r.dp, r.un⟩
section
variable {X : Cx} {k : Nat} {f : Addr} {fd : FuncData} {ps : List Str} {sp : Addr → Value → Option Addr → Sp} {x : Str} {p pos : Pos} {e : Expr} {es : List Expr} {t : TA} {b : Addr} {ob : Obj} {c : Value} {d : Option Addr}
/-- f(e, ..), where b's object is pinned -/
theorem pe_callP (F : FnP X.prog X.w X.K X.mg X.base k f fd ps sp) (hp : (b, ob) ∈ X.pn) (got : Got (b, ob) c d) (hr : L2H.RoomH k X.A) (hg : Gl X x) (hm : X.mg x = some (.ref f)) (hk : PySem.W.keepIn X.K (.ref f) = true) (hb : Binds X.K fd ps []) (ha : PA X (e :: es) t)
    (hdb : (x == ("__debug__" : Str)) = false := by decide) (he : starEach (e :: es) X.env = (false, eval e X.env) :: starEach es X.env := by rfl) (hpl : (backTo pos (starEach es X.env)).any (·.1) = false := by rfl) : PE X (.Call (.Name x p) (e :: es) [] pos) (tCall (sp b c d) [] E0 t) := by
  refine ⟨fun pins s σ H Q I h => wpAny_Call_Name_kw (ld_glob I hg hm ?_ hdb)⟩
  refine PySem.W.callWith_K (h₀ := X.base) I.ok.mod.kin hk (thn (ha.run pos pins s σ H _ I h) fun us s1 ⟨vs, H1, I1, r, q0⟩ => ⟨I1.kIn, ?_⟩) he hpl
  have want : sp b c d vs H1 Q E0 := by simpa using q0
  have le : us.length = ps.length := by rw [← r.length]; exact F.len _ _ _ _ _ _ _ want
  have bd : BindsTo s1 fd ⟨us, []⟩ (ps.zip us) := by simpa using hb s1 us I1.kIn (by simpa using le)
  obtain ⟨pin1, pin2, pin3, pin4, pin5⟩ := I1.pin (b, ob) (List.mem_append_left _ hp)
  have pin : L2H.PinOk X.stack H1 s1 (b, ob) := ⟨pin1, pin2, fun mem => (List.mem_cons.mp (I1.stkSub b mem)).elim pin3 pin4, pin5⟩
  refine wpAny_call (codeAny_mono (F.run X.A X.stack s1 H1 ⟨us, []⟩ us vs Q E0 (b, ob) c d got hr pin I1.env0 bd r want) fun res s2 out => ?_)
  match res, out with
  | .error _, out => exact out.elim
  | .ok (.ret _), out => exact I1.after out
  | .ok .next, out => exact out.elim
  | .ok .brk, out => exact out.elim
  | .ok .cont, out => exact out.elim
end
section
variable {X : Cx} {q : Addr × Obj} {cls : Value} {d : Option Addr}
theorem err_in {pins : List (Addr × Obj)} {s : Shared} {σ : Sl} {H : Hp} {D dd : Addr} {fs : List (Str × V)} (hp : q ∈ X.pn) (I : Inv X pins σ H s) (got : Got q (.ref D) (some dd)) (hd : H dd = some (.xd fs)) :
    ∃ od, InstAt s.heap q.1 q.2 D (some od) := by
  obtain ⟨hget, _⟩ := I.pin q (List.mem_append_left _ hp)
  obtain ⟨hz, vs, hv⟩ := got
  obtain ⟨mA, hns, _⟩ := (show ObjOk X.prog X.w H s.heap dd (.xd fs) from I.hok dd _ hd)
  obtain ⟨od, ho, _⟩ := lookIn_ns hns
  exact ⟨od, hget, hz.1, by unfold notCls; rw [hv] <;> rfl, by rw [hz.2]; exact ho⟩
theorem call_isP (hp : q ∈ X.pn) (got : Got q cls d) : CallR X (.builtin "isinstance") (rIsX X.K q.1 cls d) := by
  intro pins s σ H xs us Q I r h
  obtain ⟨D, dd, fs, c, cv, b, rfl, rfl, T, hd, rfl, hc, e, want⟩ := h
  obtain ⟨u1, u2, rfl, r1, r2⟩ := vals2 r
  obtain rfl : u1 = Value.ref q.1 := r1
  have ec := hc.eq r2
  subst ec
  obtain ⟨od, J⟩ := err_in hp I got hd
  exact kia_one (err_kit T) I.kIn J e (fun z => nomatch z) fun tk => ⟨.bl b, H, I.kept (t' := tk) fun _ _ z => z, rfl, want⟩
theorem call_isPT (hp : q ∈ X.pn) (got : Got q cls d) : CallR X (.builtin "isinstance") (rIsXT X.K q.1 cls d) := by
  intro pins s σ H xs us Q I r h
  obtain ⟨D, dd, tp, fs, cs, cvs, b, rfl, rfl, T, hd, rfl, hT, hc, e, want⟩ := h
  obtain ⟨u1, u2, rfl, r1, r2⟩ := vals2 r
  obtain rfl : u1 = Value.ref q.1 := r1
  obtain rfl : u2 = Value.ref tp := r2
  obtain ⟨od, J⟩ := err_in hp I got hd
  obtain ⟨_, its, rv, o, h1, h2, n, h3⟩ := (show ObjOk X.prog X.w H s.heap tp (.tup cs) from I.hok tp _ hT)
  have e3 := ClsV.all hc rv
  subst e3
  obtain ⟨oc, oe', dt, sl⟩ := o
  simp only at h2 h3
  subst h2 h3
  exact kia_tup (err_kit T) I.kIn J h1 e (fun z => nomatch z) fun tk => ⟨.bl b, H, I.kept (t' := tk) fun _ _ z => z, rfl, want⟩
/-- e.f of the caught error, whatever its class -/
def tXp (K : PySem.W.Frag) (a : Addr) (cls : Value) (d : Option Addr) (f : Str) (te : TE) : TE := fun σ H Q => te σ H fun x H1 => ∃ (D dd : Addr) (fs : List (Str × V)) (v : V), x = .ref a ∧ cls = .ref D ∧ d = some dd ∧ XfC K D ∧ findIn K (.ref D) f = some none ∧
  H1 dd = some (.xd fs) ∧ fs.lookup f = some v ∧ Q v H1
theorem pe_xp {e : Expr} {te : TE} {pos : Pos} {n : Str} (hp : q ∈ X.pn) (got : Got q cls d) (he : PE X e te) (hb : attributeBase e n X.env (eval e X.env) = eval e X.env := by rfl) : PE X (.Attribute e n pos) (tXp X.K q.1 cls d n te) := by
  refine ⟨fun pins s σ H Q I h => attr_of hb (thn (he.run pins s σ H _ I h) fun u s1 hh => ?_)⟩
  obtain ⟨y, H1, I1, ry, D, dd, fs, v, rfl, rfl, rfl, T, hno, ea, l, want⟩ := hh
  obtain rfl : u = Value.ref q.1 := ry
  obtain ⟨there, _⟩ := I1.pin q (List.mem_append_left _ hp)
  obtain ⟨hz, vs, hv⟩ := got
  obtain ⟨mA, hns, hr⟩ := (show ObjOk X.prog X.w H1 s1.heap dd (.xd fs) from I1.hok dd _ ea)
  obtain ⟨od, ho, hl⟩ := lookIn_ns hns
  obtain ⟨u, hu, ru⟩ := RelO.some_of (v := v) (o := mA n) (by rw [← l]; exact hr n)
  have J : InstAt s1.heap q.1 q.2 D (some od) := ⟨there, hz.1, by unfold notCls; rw [hv] <;> rfl, by rw [hz.2]; exact ho⟩
  have found := findObj_own (od := od) T.hdC hno rfl (by rw [hl, hu])
  exact HandSPX.exc_get I1.kIn J T.ga T.gg T.exC found (handed_of ru) ⟨v, H1, I1.tok _, ru, want⟩
end
end WH
namespace WH
open PySem PySem.Spec PyProof.Rows L2
section
variable {X : Cx} {CX : CXT} {k : Nat} {f C : Addr} {fd : FuncData} {ps ks : List Str} {ds : List Value} {dvs : List V} {sp : Sp} {E : Sl → XK} {x : Str} {p pos : Pos} {e : Expr} {es : List Expr} {kws : List Keyword} {t tk : TA} {g : List Value → List Value → List Value} {gV : List V → List V → List V}
/-- C(e, ..) within a try: __init__ may raise -/
def tMakeS (C : Addr) (sp : Sp) (E : Sl → XK) (t : TA) : TE := fun σ H Q => t σ H fun vs H1 => ∀ x dx, H1 x = none → H1 dx = none → dx ≠ x → sp (.ref x :: vs) (upd (upd H1 dx (.own x)) x (.ins C dx [])) (fun v H2 => v = .non ∧ Q (.ref x) H2) (E σ)
theorem pe_makeS (M : Mk X.K C f) (F : FnOk X.prog X.w X.K X.mg X.base CX k f fd ps sp) (hr : Room (k + 1) X.A) (hg : Gl X x) (hm : X.mg x = some (.ref C)) (hb : Binds X.K fd ps []) (hx : ∀ σ, PassesAt CX X σ (E σ))
    (ha : PA X (e :: es) t) (hdb : (x == ("__debug__" : Str)) = false := by decide) (he : starEach (e :: es) X.env = (false, eval e X.env) :: starEach es X.env := by rfl) (hpl : (backTo pos (starEach es X.env)).any (·.1) = false := by rfl) :
    PE X (.Call (.Name x p) (e :: es) [] pos) (tMakeS C sp E t) := by
  refine ⟨fun pins s σ H Q I h => ?_⟩
  refine wpAny_Call_Name_kw (ld_glob I hg hm ?_ hdb)
  refine PySem.W.callWith_K (h₀ := X.base) I.ok.mod.kin M.kp (thn (ha.run pos pins s σ H _ I h) fun us s1 ⟨vs, H1, I1, r, q⟩ => ⟨I1.kIn, ?_⟩) he hpl
  have hq := q (s1.heap.objs.size + 1) s1.heap.objs.size (I1.hok.fresh (Nat.le_succ _)) (I1.hok.fresh (Nat.le_refl _)) (Nat.ne_of_lt (Nat.lt_succ_self _))
  have I2 := Inv.made (C := C) I1
  have r2 : Vals (V.ref (s1.heap.objs.size + 1) :: vs) (Value.ref (s1.heap.objs.size + 1) :: us) := .cons rfl r
  have hl : (Value.ref (s1.heap.objs.size + 1) :: us ++ ([] : List Value)).length = ps.length := by
    have e := r2.length
    rw [F.len _ _ _ _ hq] at e
    rw [List.append_nil]
    exact e.symm
  have hb' := hb s1 (Value.ref (s1.heap.objs.size + 1) :: us)
  refine wpAny_call (make_map (f := f) I1.kIn M.makes M.init (beq_iff_eq.mp M.fn) (codeAny_mono (F.run _ X.stack _ _ ⟨Value.ref (s1.heap.objs.size + 1) :: us, []⟩ (Value.ref (s1.heap.objs.size + 1) :: us) _ _ (E σ) (hr.make C us [])
    (I2.env0.make C us []) (by simpa using hb _ (Value.ref (s1.heap.objs.size + 1) :: us) I2.kIn hl) r2 hq) fun r s' hq' => ?_))
  match r, hq' with
  | .error e, hq' => exact hx σ pins _ _ e s' I2 hq'
  | .ok (.ret u), hq' =>
    obtain ⟨v, H', I3, rv, ev, q3⟩ := I2.after hq'
    subst ev
    exact ⟨rv, ⟨V.ref (s1.heap.objs.size + 1), H', I3, rfl, q3⟩⟩
  | .ok .next, hq' => exact False.elim hq'
  | .ok .brk, hq' => exact False.elim hq'
  | .ok .cont, hq' => exact False.elim hq'
/-- C(k = v, ..) within a try -/
def tMakeK0S (C : Addr) (m : Nat) (sp : Sp) (gV : List V → List V → List V) (E : Sl → XK) (tk : TA) : TE := fun σ H Q => tk σ H fun zs H2 => zs.length = m ∧ ∀ x dx, H2 x = none → H2 dx = none → dx ≠ x →
  sp (gV [.ref x] zs) (upd (upd H2 dx (.own x)) x (.ins C dx [])) (fun v H3 => v = .non ∧ Q (.ref x) H3) (E σ)
theorem pe_makeK0S (M : Mk X.K C f) (F : FnOk X.prog X.w X.K X.mg X.base CX k f fd ps sp) (hr : Room (k + 1) X.A) (hg : Gl X x) (hm : X.mg x = some (.ref C)) (hb : KBn X.K fd ps 1 ks g gV) (hx : ∀ σ, PassesAt CX X σ (E σ)) (hkw : PK X kws tk)
    (hall : (backToKw pos (keywordEach kws X.env)).all (·.1.isSome) = true := by rfl) (hks : (backToKw pos (keywordEach kws X.env)).filterMap (·.1) = ks := by rfl) (hdb : (x == ("__debug__" : Str)) = false := by decide)
    (hpl : ((backTo pos (starEach [] X.env)).any (·.1) || (backToKw pos (keywordEach kws X.env)).any (·.1.isNone)) = false := by rfl) : PE X (.Call (.Name x p) [] kws pos) (tMakeK0S C ks.length sp gV E tk) := by
  refine ⟨fun pins s σ H Q I h => wpAny_Call_Name_kw (ld_glob I hg hm ?_ hdb)⟩
  refine PySem.W.callWith_KW0 (h₀ := X.base) I.ok.mod.kin M.kp hall ?_ hpl
  refine thn (hkw.run pos pins s σ H _ I h) fun ws s2 ⟨zs, H2, I2, rz, l2, q2⟩ => ⟨I2.kIn, ?_⟩
  rw [hks]
  have hq := q2 (s2.heap.objs.size + 1) s2.heap.objs.size (I2.hok.fresh (Nat.le_succ _)) (I2.hok.fresh (Nat.le_refl _)) (Nat.ne_of_lt (Nat.lt_succ_self _))
  have I3 := Inv.made (C := C) I2
  have r1 : Vals [V.ref (s2.heap.objs.size + 1)] [Value.ref (s2.heap.objs.size + 1)] := .cons rfl .nil
  have r2 := hb.rel r1 rz
  refine wpAny_call (make_map (f := f) I2.kIn M.makes M.init (beq_iff_eq.mp M.fn) (codeAny_mono (F.run _ X.stack _ _ ⟨[Value.ref (s2.heap.objs.size + 1)], ks.zip ws⟩ (g [Value.ref (s2.heap.objs.size + 1)] ws) _ _ (E σ) (hr.make C [] (ks.zip ws))
    (I3.env0.make C [] (ks.zip ws)) (hb.to _ [Value.ref (s2.heap.objs.size + 1)] ws I3.kIn rfl (rz.length.symm.trans l2)) r2 hq) fun r s' hq' => ?_))
  match r, hq' with
  | .error e, hq' => exact hx σ pins _ _ e s' I3 hq'
  | .ok (.ret u), hq' =>
    obtain ⟨v, H', I4, rv, ev, q3⟩ := I3.after hq'
    subst ev
    exact ⟨rv, ⟨V.ref (s2.heap.objs.size + 1), H', I4, rfl, q3⟩⟩
  | .ok .next, hq' => exact False.elim hq'
  | .ok .brk, hq' => exact False.elim hq'
  | .ok .cont, hq' => exact False.elim hq'
end
end WH
set_option maxHeartbeats 4000000
namespace PySem
namespace WHX
open PyProof.Rows PySem.W PySem.Calls PySem.HandSPX
section
open Builtin Builtin.ObjectAttr
variable {prog : Program} {w : World} {A : Around} {E : Value → Shared → Prop} {R : Result → Shared → Prop} {h : Heap} {g : Array GenState} {d : Drawn} {t : Nat} {os : OsState} {M : Model}
variable {nm q : Str} {C N : Addr} {bs bm bmB : List Value} {hdct : Bool} {sn : List Str} {sub : List Value} {ab : Bool} {col : Option Bool} {dd : Option Addr} {k0 k1 k2 k3 k5 : Option Value} {B newId initId : String} {kw : List (Str × Value)}
theorem kw_check (F : ExcBaseFacts B newId initId bmB) (hT : ∀ Y : String, bm.contains (.type Y) = bmB.contains (.type Y)) {rest : List Value} {Q : Unit → Shared → Prop}
    (hC : h.get? C = some (excClassObj nm q C N bs bm hdct sn sub ab col dd k0 k1 k2 k3 k5 newId)) (hq : Q () ⟨h, g, d, t, os⟩) : wpAny M A (checkBuiltinCall newId ⟨.ref C :: rest, kw⟩) Q E ⟨h, g, d, t, os⟩ := by
  have has : (Value.ref C :: bm).contains (.type B) = true := by rw [List.contains_cons, hT, F.hasB, Bool.or_true]
  have st := F.noStar
  simp only [checkBuiltinCall, F.newKind, F.newSplit, F.newRow]
  repeat (first | refine wpAny_loadPart_at hC ?_ | (refine wpAny_isSubtype_exc hC ?_; rw [has]) | refine wpAny_staticBase_exc hC ?_ | refine wpAny_madeBy_exc hC ?_ | simp only [bne_self_eq_false, Bool.false_eq_true, if_false] | wp_step)
  exact hq
theorem kw_new (F : ExcBaseFacts B newId initId bmB) (hT : ∀ Y : String, bm.contains (.type Y) = bmB.contains (.type Y)) {rest : List Value}
    (hC : h.get? C = some (excClassObj nm q C N bs bm hdct sn sub ab col dd k0 k1 k2 k3 k5 newId))
    (hq : R (.ok (.ret (.ref (h.objs.size + 1)))) ⟨(h.push { cls := .type "tuple", data := .seq rest.toArray }).push { cls := .ref C, data := .fields #[.ref h.objs.size, .none, .none, .none, .bool false, .none] }, g, d, t, os⟩) (hrest : rest.length ≤ sizeLine) :
    codeAny (model prog w) A (.builtin newId ⟨.ref C :: rest, kw⟩) R ⟨h, g, d, t, os⟩ := by
  have ends := F.ends
  have c1 : (Value.ref C :: bm).contains (.type B) = true := by rw [List.contains_cons, hT, F.hasB, Bool.or_true]
  have c2 : (Value.ref C :: bm).contains (.type "AttributeError") = false := by rw [List.contains_cons, hT, F.noAttr]; rfl
  have c3 : (Value.ref C :: bm).contains (.type "NameError") = false := by rw [List.contains_cons, hT, F.noName]; rfl
  refine codeAny_builtinAt F.entry ?_
  unfold Builtin.«BaseException.__new__»
  refine wpAt_bind ?_
  show wpAt _ _ _ (stack >>= _) _ _ _
  refine wpAt_bind (wpAt_stack fun p below => wpAt_of_wpAny ?_)
  wp_walk
  refine wpAt_of_wpAny ?_
  rw [F.owner]
  repeat (first | with_reducible refine wpAny_madeHere_exc F.canon hC ?_ | with_reducible refine wpAny_loadPart_at hC ?_ | (with_reducible refine wpAny_isSubtype_exc hC ?_; first | rw [c1] | rw [c2] | rw [c3]) | wp_step)
  show R _ _
  rw [Heap.size_push]
  exact hq
theorem kw_type (F : ExcBaseFacts B newId initId bmB) (hT : ∀ Y : String, bm.contains (.type Y) = bmB.contains (.type Y)) {rest : List Value} {fI : Addr} {Q : Fin → Shared → Prop}
    (hC : h.get? C = some (excClassObj nm q C N bs bm hdct sn sub ab col dd k0 k1 k2 k3 k5 newId))
    (hi : W.Looks (model prog w) h (typeLookup (.ref C) "__init__") (some (.ref fI))) (hb : ∀ self, W.Looks (model prog w) h (bindSpecial (.ref fI) self) (.ref fI, [self])) (hrest : rest.length ≤ sizeLine)
    (hq : codeAny (model prog w) A (.call (.ref fI) ⟨.ref (h.objs.size + 1) :: rest, kw⟩)
      (fun r s' => match r with | .ok (.ret v) => v = .none ∧ Q (.done (.ret (.ref (h.objs.size + 1)))) s' | .ok _ => False | .error e => E e s') ⟨(h.push (W.kdv_tup rest)).push (excO C h.objs.size), g, d, t, os⟩) :
    wpAny (model prog w) A (Builtin.«type.__call__» ⟨.ref C :: rest, kw⟩) Q E ⟨h, g, d, t, os⟩ := by
  repeat (first | with_reducible refine wpAny_loadPart_at hC ?_ | with_reducible refine wpAny_madeBy_exc hC ?_ | wp_step)
  refine codeAny_call_builtin_code (Code.quiet_builtin _ F.quiet) (kw_check F hT hC ?_)
  refine kw_new F hT hC ?_ hrest
  show wpAny _ _ _ _ _ _
  have keep : ∀ b o, h.get? b = some o → ((h.push (W.kdv_tup rest)).push (excO C h.objs.size)).get? b = some o := fun b o e => Heap.get?_push_of_some _ (Heap.get?_push_of_some _ e)
  have there := keep _ _ hC
  have made : ((h.push (W.kdv_tup rest)).push (excO C h.objs.size)).get? (h.objs.size + 1) = some (excO C h.objs.size) := by heap_get
  have cC : (Value.ref C :: bm).contains (.ref C) = true := by simp
  have i1 := hi.keeps keep
  have b1 := (hb (.ref (h.objs.size + 1))).keeps keep
  unfold isInstance
  repeat (first | with_reducible refine wpAny_loadPart_at made ?_ | (with_reducible refine wpAny_isSubtype_exc there ?_; rw [cC]) | wp_step)
  show wpAny _ _ (typeLookup (.ref C) _) _ _ _
  refine i1.at (wpAny_holding (wpAny_bind (b1.at (wpAny_bind (wpAny_call (codeAny_mono hq fun r s' z => ?_))))))
  rcases r with e | (v | _ | _ | _) <;> first | exact z | exact z.elim | skip
  obtain ⟨rfl, z⟩ := z
  first
    | exact wpAny_pure (wpAny_pure z)
    | (wp_walk; exact z)
theorem kw_call (F : ExcBaseFacts B newId initId bmB) (hT : ∀ Y : String, bm.contains (.type Y) = bmB.contains (.type Y)) {rest : List Value} {fI : Addr}
    (hC : h.get? C = some (excClassObj nm q C N bs bm hdct sn sub ab col dd k0 k1 k2 k3 k5 newId))
    (hi : W.Looks (model prog w) h (typeLookup (.ref C) "__init__") (some (.ref fI))) (hb : ∀ self, W.Looks (model prog w) h (bindSpecial (.ref fI) self) (.ref fI, [self])) (hrest : rest.length ≤ sizeLine)
    (hq : codeAny (model prog w) (A.under (.builtin "type.__call__" ⟨.ref C :: rest, kw⟩)) (.call (.ref fI) ⟨.ref (h.objs.size + 1) :: rest, kw⟩) (W.InitBack (h.objs.size + 1) R) ⟨(h.push (W.kdv_tup rest)).push (excO C h.objs.size), g, d, t, os⟩) :
    codeAny (model prog w) A (.call (.ref C) ⟨rest, kw⟩) R ⟨h, g, d, t, os⟩ := by
  have f1 := tc_lookup
  have f2 := tc_bind (.ref C)
  have ty : (⟨h, g, d, t, os⟩ : Shared).TypeIs (.ref C) "type" := ⟨_, hC, rfl⟩
  refine codeAny_of_tree ?_
  show wpAny _ _ (callAny (.ref C) _) _ _ _
  repeat (any_goals (first | assumption | with_reducible refine wpAny_loadPart_at hC ?_ | wp_step))
  refine ⟨rfl, ?_⟩
  refine codeAny_call_builtin_at (Code.quiet_builtin _ (by decide +kernel)) entry_typeCall (wpAny_check_type_call_sub hC (kw_type F hT hC hi hb hrest ?_))
  refine codeAny_mono hq fun r s' z => ?_
  rcases r with e | (v | _ | _ | _) <;> exact z
end
end WHX
end PySem
set_option maxHeartbeats 4000000
namespace WH
open PySem PySem.Spec PyProof.Rows L2 PySem.Calls
/-! ### exceptions as values -/
section
variable {X : Cx} {CX : CXT} {k : Nat} {fI C : Addr} {fd : FuncData} {ps ks : List Str} {ds : List Value} {dvs : List V} {sp : Sp} {x : Str} {p pos : Pos} {e : Expr} {es : List Expr} {kws : List Keyword} {ta tk : TA} {g : List Value → List Value → List Value} {gV : List V → List V → List V}
theorem oex_run {pins : List (Addr × Obj)} {σ : Sl} {H : Hp} {s : Shared} {Q : VK} {us : List Value} {kw : List (Str × Value)} {zs : List V} {ws : List Value} (T : OexC X.K C) (iC : PySem.W.findIn X.K (.ref C) "__init__" = some (some (.ref fI))) (tI : PySem.W.typeIn X.K (.ref fI) = some (.type "function"))
    (F1 : FnOk X.prog X.w X.K X.mg X.base CX k fI fd ps sp) (hr : Room (k + 1) X.A) (hx : Passes CX X (fun _ _ _ => False)) (I : Inv X pins σ H s) (hus : us.length ≤ sizeLine) (rz : ∀ a : Addr, Vals (V.ref a :: zs) (Value.ref a :: ws))
    (hb : ∀ (s' : Shared) (a : Addr), X.K.In s'.heap → BindsTo s' fd ⟨Value.ref a :: us, kw⟩ (ps.zip (Value.ref a :: ws)))
    (hq : ∀ a, H a = none → sp (.ref a :: zs) (upd H a (exo a C none)) (fun v H2 => v = .non ∧ Q (.ref a) H2) (fun _ _ _ => False)) :
    wpAny (model X.prog X.w) X.A (call (.ref C) us kw) (EP X pins σ Q) X.xe s := by
  obtain ⟨nm, q, N, bs, bm, sn, sub, ab, col, dd, k0, k1, k2, k3, k5, hC, hbm⟩ := T.cls
  obtain ⟨hp, gs, dr, tok, os⟩ := s
  have hsz : hp.objs.size ≤ hp.objs.size + 1 := Nat.le_succ _
  have want := hq (hp.objs.size + 1) (I.hok.fresh hsz)
  have kk : ∀ b o, hp.get? b = some o → ((hp.push (PySem.W.kdv_tup us)).push (PySem.HandSPX.excO C hp.objs.size)).get? b = some o := fun b o e => Heap.get?_push_of_some _ (Heap.get?_push_of_some _ e)
  have made : ((hp.push (PySem.W.kdv_tup us)).push (PySem.HandSPX.excO C hp.objs.size)).get? (hp.objs.size + 1) = some (PySem.HandSPX.excO C hp.objs.size) := by heap_get
  have I2 : Inv X pins σ (upd H (hp.objs.size + 1) (exo (hp.objs.size + 1) C none)) ⟨(hp.push (PySem.W.kdv_tup us)).push (PySem.HandSPX.excO C hp.objs.size), gs, dr, tok, os⟩ :=
    I.laid (t' := tok) (a := hp.objs.size + 1) (o := exo (hp.objs.size + 1) C none) (h' := (hp.push (PySem.W.kdv_tup us)).push (PySem.HandSPX.excO C hp.objs.size)) kk hsz (exo_ok made)
  refine wpAny_call (PySem.WHX.kw_call F.excBase_ValueError (fun Y => PySem.HandSPX.refsVE_contains Y bm hbm) (I.kIn _ _ hC) (PySem.W.looks_findIn I.kIn iC) (fun self => PySem.W.bind_fn I.kIn self tI) hus
    (codeAny_mono (F1.run _ X.stack _ _ ⟨Value.ref (hp.objs.size + 1) :: us, kw⟩ (Value.ref (hp.objs.size + 1) :: ws) _ _ (fun _ _ _ => False) (hr.make C us kw) (I2.env0.make C us kw) (hb _ (hp.objs.size + 1) I2.kIn) (rz _) want) fun r s' out => ?_))
  match r, out with
  | .error er, out => exact hx pins σ _ _ er s' I2 out
  | .ok (.ret u), out =>
    obtain ⟨v, H', I3, rv, ev, q3⟩ := I2.after out
    subst ev
    exact ⟨rv, ⟨V.ref (hp.objs.size + 1), H', I3, rfl, q3⟩⟩
  | .ok .next, out => exact False.elim out
  | .ok .brk, out => exact False.elim out
  | .ok .cont, out => exact False.elim out
/-- C(e, ..) as a value -/
def tOex (C : Addr) (sp : Sp) (ta : TA) : TE := fun σ H Q => ta σ H fun vs H1 => vs.length ≤ 1000 ∧ ∀ a, H1 a = none → sp (.ref a :: vs) (upd H1 a (exo a C none)) (fun v H2 => v = .non ∧ Q (.ref a) H2) (fun _ _ _ => False)
theorem pe_oex (T : OexC X.K C) (iC : PySem.W.findIn X.K (.ref C) "__init__" = some (some (.ref fI))) (tI : PySem.W.typeIn X.K (.ref fI) = some (.type "function"))
    (F1 : FnOk X.prog X.w X.K X.mg X.base CX k fI fd ps sp) (hr : Room (k + 1) X.A) (hb : Binds X.K fd ps []) (hx : Passes CX X (fun _ _ _ => False)) (hg : Gl X x) (hm : X.mg x = some (.ref C)) (ha : PA X (e :: es) ta)
    (hdb : (x == ("__debug__" : Str)) = false := by decide) (he : starEach (e :: es) X.env = (false, eval e X.env) :: starEach es X.env := by rfl) (hpl : (backTo pos (starEach es X.env)).any (·.1) = false := by rfl) :
    PE X (.Call (.Name x p) (e :: es) [] pos) (tOex C sp ta) := by
  refine ⟨fun pins s σ H Q I h => wpAny_Call_Name_kw (ld_glob I hg hm ?_ hdb)⟩
  refine PySem.W.callWith_K (h₀ := X.base) I.ok.mod.kin T.kC (thn (ha.run pos pins s σ H _ I h) fun us s1 ⟨vs, H1, I1, r1, hz, q1⟩ => ⟨I1.kIn, ?_⟩) he hpl
  have le : us.length ≤ sizeLine := by
    rw [← Paired.length r1, sizeLine_eq]
    omega
  have rz : ∀ a : Addr, Vals (V.ref a :: vs) (Value.ref a :: us) := fun a => .cons rfl r1
  refine oex_run (kw := []) (ws := us) T iC tI F1 hr hx I1 le rz (fun s' a J => ?_) q1
  have hl : (Value.ref a :: us).length = ps.length := by
    rw [← (rz a).length]
    exact F1.len _ _ _ _ (q1 (s1.heap.objs.size + 1) (I1.hok.fresh (Nat.le_succ _))) |>.symm ▸ rfl
  simpa using hb s' (Value.ref a :: us) J (by simpa using hl)
/-- C(k = v, ..) as a value -/
def tOexK (C : Addr) (m : Nat) (sp : Sp) (gV : List V → List V → List V) (tk : TA) : TE := fun σ H Q => tk σ H fun zs H1 => zs.length = m ∧ ∀ a, H1 a = none → sp (gV [.ref a] zs) (upd H1 a (exo a C none)) (fun v H2 => v = .non ∧ Q (.ref a) H2) (fun _ _ _ => False)
theorem pe_oexK (T : OexC X.K C) (iC : PySem.W.findIn X.K (.ref C) "__init__" = some (some (.ref fI))) (tI : PySem.W.typeIn X.K (.ref fI) = some (.type "function"))
    (F1 : FnOk X.prog X.w X.K X.mg X.base CX k fI fd ps sp) (hr : Room (k + 1) X.A) (hb : KBn X.K fd ps 1 ks (fun us ws => us ++ ws) (fun us ws => us ++ ws)) (hx : Passes CX X (fun _ _ _ => False)) (hg : Gl X x) (hm : X.mg x = some (.ref C)) (hkw : PK X kws tk)
    (hall : (backToKw pos (keywordEach kws X.env)).all (·.1.isSome) = true := by rfl) (hks : (backToKw pos (keywordEach kws X.env)).filterMap (·.1) = ks := by rfl) (hdb : (x == ("__debug__" : Str)) = false := by decide)
    (hpl : ((backTo pos (starEach [] X.env)).any (·.1) || (backToKw pos (keywordEach kws X.env)).any (·.1.isNone)) = false := by rfl) : PE X (.Call (.Name x p) [] kws pos) (tOexK C ks.length sp (fun us ws => us ++ ws) tk) := by
  refine ⟨fun pins s σ H Q I h => wpAny_Call_Name_kw (ld_glob I hg hm ?_ hdb)⟩
  refine PySem.W.callWith_KW0 (h₀ := X.base) I.ok.mod.kin T.kC hall ?_ hpl
  refine thn (hkw.run pos pins s σ H _ I h) fun ws s2 ⟨zs, H2, I2, rz, l2, q2⟩ => ⟨I2.kIn, ?_⟩
  rw [hks]
  exact oex_run (us := []) (kw := ks.zip ws) (ws := ws) T iC tI F1 hr hx I2 (Nat.zero_le _) (fun a => .cons rfl rz) (fun s' a J => hb.to s' [Value.ref a] ws J rfl (rz.length.symm.trans l2)) q2
end
section
variable {X : Cx} {pins : List (Addr × Obj)} {σ : Sl} {H : Hp} {s : Shared} {a D dx : Addr} {fs : List (Str × V)}
/-- an exception that stands as a value, its fields -/
def ExV (H : Hp) (a D : Addr) (fs : List (Str × V)) : Prop := ∃ dx, H a = some (exo a D (some dx)) ∧ H dx = some (exd dx fs)
theorem ExV.same {H H' : Hp} (h : ExV H a D fs) (s : Same H H') : ExV H' a D fs := by
  obtain ⟨dx, h1, h2⟩ := h
  exact ⟨dx, s _ _ h1, s _ _ h2⟩
theorem exv_inst (I : Inv X pins σ H s) (h : ExV H a D fs) : ∃ (ox od : Obj) (mA : Str → Option Value), PySem.W.InstAt s.heap a ox D (some od) ∧ (∀ f, RelO (fs.lookup f) (mA f)) ∧ ∀ n, PySem.W.lookIn n od = some (mA n) := by
  obtain ⟨dx, ha, hd⟩ := h
  obtain ⟨t1, ho⟩ := exo_at I.hok ha
  obtain ⟨mA, hns, rel⟩ := exd_at I.hok hd
  obtain ⟨od, hod, hl⟩ := lookIn_ns hns
  exact ⟨_, od, mA, ⟨ho, rfl, rfl, hod⟩, rel, fun n => hl n⟩
end
section
open PySem.W
variable {X : Cx}
/-- isinstance(e, c), e such a value -/
def rIsV (K : PySem.W.Frag) : List V → Hp → VK → Prop := fun xs H Q => ∃ (a D : Addr) (fs : List (Str × V)) (c : V) (cv : Value) (b : Bool), xs = [.ref a, c] ∧ ExV H a D fs ∧ ExcC K D ∧ ClsV c cv ∧ PySem.W.kitOne K (.ref D) cv = some b ∧ Q (.bl b) H
theorem call_isV : CallR X (.builtin "isinstance") (rIsV X.K) := by
  intro pins s σ H xs us Q I r h
  obtain ⟨a, D, fs, c, cv, b, rfl, hv, T, hc, e, q⟩ := h
  obtain ⟨u1, u2, rfl, r1, r2⟩ := vals2 r
  obtain rfl : u1 = Value.ref a := r1
  have ec := hc.eq r2
  subst ec
  obtain ⟨ox, od, mA, J, _, _⟩ := exv_inst I hv
  exact kia_one (err_kit T) I.kIn J e (fun z => nomatch z) fun tk => ⟨.bl b, H, I.kept (t' := tk) fun _ _ z => z, rfl, q⟩
/-- e.f, e such a value -/
def tXv (K : PySem.W.Frag) (f : Str) (te : TE) : TE := fun σ H Q => te σ H fun x H1 => ∃ (a D : Addr) (fs : List (Str × V)) (v : V), x = .ref a ∧ ExV H1 a D fs ∧ XfC K D ∧ PySem.W.findIn K (.ref D) f = some none ∧ fs.lookup f = some v ∧ Q v H1
theorem pe_xv {K : PySem.W.Frag} (hK : X.K = K) {e : Expr} {te : TE} {pos : Pos} {n : Str} (he : PE X e te) (hb : attributeBase e n X.env (eval e X.env) = eval e X.env := by rfl) : PE X (.Attribute e n pos) (tXv K n te) := by
  subst hK
  refine ⟨fun pins s σ H Q I h => attr_of hb (thn (he.run pins s σ H _ I h) fun u s1 hh => ?_)⟩
  obtain ⟨y, H1, I1, ry, a, D, fs, v, rfl, hv, T, hno, l, want⟩ := hh
  obtain rfl : u = Value.ref a := ry
  obtain ⟨ox, od, mA, J, hr, hl⟩ := exv_inst I1 hv
  obtain ⟨u, hu, ru⟩ := RelO.some_of (v := v) (o := mA n) (by rw [← l]; exact hr n)
  exact HandSPX.exc_get I1.kIn J T.ga T.gg T.exC (PySem.W.findObj_own (od := od) T.hdC hno rfl (by rw [hl, hu])) (handed_of ru) ⟨v, H1, I1.tok _, ru, want⟩
/-- what repr gives of a value: of plain ones, of lists and tuples of them, of a dict with one entry -/
inductive Shw (K : PySem.W.Frag) (H : Hp) : V → Str → Prop
  | int (i : Int) : i.natAbs.log2 < 1920 → Shw K H (.int i) (toString i)
  | str (x : Str) : (reprText x).length ≤ sizeLine → Shw K H (.str x) (reprText x)
  | bl (b : Bool) : Shw K H (.bl b) (if b then "True" else "False")
  | non : Shw K H .non "None"
  | data (a : Addr) (d : PyData) : Dp K H (.ref a) d → d.showable = true → d.hasDict = false → d.depth ≤ 60 → d.shown.length ≤ sizeLine → Shw K H (.ref a) d.shown
  | dict (a : Addr) (k : Str) (i : Int) : H a = some (.dK [(.inr k, .int i)]) → (PyData.dict [(.str k, .int i)]).showable = true → (PyData.dict [(.str k, .int i)]).shown.length ≤ sizeLine → Shw K H (.ref a) (PyData.dict [(.str k, .int i)]).shown
def rShow (K : PySem.W.Frag) : List V → Hp → VK → Prop := fun xs H Q => ∃ (v : V) (z : Str), xs = [v] ∧ Shw K H v z ∧ Q (.str z) H
theorem call_show (hG : X.A.guards = some []) (hu : X.A.units + 64 < cLine) : CallR X (.builtin "repr") (rShow X.K) := by
  intro pins s σ H xs us Q I r h
  obtain ⟨v, z, rfl, hs, q⟩ := h
  cases hs with
  | int i hz =>
    obtain ⟨u, rfl, t, rfl⟩ := vals1 r
    exact PySem.P.repr_of_int hz ⟨.str _, H, I.tok _, ⟨_, rfl⟩, q⟩
  | str x hz =>
    obtain ⟨u, rfl, t, rfl⟩ := vals1 r
    exact PySem.P.repr_of_str ⟨.str _, H, I.tok _, ⟨_, rfl⟩, q⟩ hz
  | bl b =>
    obtain ⟨u, rfl, ru⟩ := vals1 r
    cases ru
    exact PySem.P.repr_of_bool ⟨.str _, H, I.tok _, ⟨_, rfl⟩, q⟩
  | non =>
    obtain ⟨u, rfl, ru⟩ := vals1 r
    cases ru
    exact PySem.P.repr_of_none ⟨.str _, H, I.tok _, ⟨_, rfl⟩, q⟩
  | data a d hd hs hn hp hz =>
    obtain ⟨u, rfl, ru⟩ := vals1 r
    obtain rfl : u = Value.ref a := ru
    obtain ⟨as, rd⟩ := hd.reads I d (.ref a) (.ref a) rfl
    exact repr_of_reads' rd hs (PyData.noDict_hsm hn) hG (by omega) (fun _ _ e => e) (fun h' t k keep => ⟨.str d.shown, H, I.kept keep, ⟨_, rfl⟩, q⟩) hz
  | dict a k i hd hs hz =>
    obtain ⟨u, rfl, ru⟩ := vals1 r
    obtain rfl : u = Value.ref a := ru
    obtain ⟨_, sys, vs, kv, m⟩ := dk_of I.hok hd
    obtain ⟨o, es, ep, ho, ⟨e1, e2, e3⟩, e4, ks, pr, nd⟩ := m
    cases kv with
    | @cons p qv ps qs r1 r2 =>
      cases r2
      obtain ⟨k', u⟩ := qv
      obtain ⟨r3, r4⟩ := r1
      obtain ⟨t, rfl⟩ := r4
      have r3 : Sum.inr k = k' := r3
      subst r3
      generalize hes : es.toList = l at pr
      cases pr with
      | @cons en kv' es' kvs' h1 h2 h3 =>
        cases h3
        obtain ⟨tk, hk⟩ : ∃ tk, en.key = .str k tk := by
          have h1k : keyIs (Sum.inr k) en.key = true := h1
          rcases keyIs_shape h1k with ⟨j, t', e, _⟩ | ⟨x, t', e, ek⟩
          · cases e
          · cases e
            exact ⟨t', ek⟩
        have rd : Reads s.heap (.ref a) (PyData.dict [(.str k, .int i)]) (a :: (([] : List Addr) ++ []) ++ ([] ++ [])) := by
          refine .dict ho e1 e4 ?_ ?_
          · rw [hes]
            show ReadsAll _ [en.key] _ _
            rw [hk]
            exact .cons (.str k tk) .nil
          · rw [hes]
            show ReadsAll _ [en.val] _ _
            rw [h2]
            exact .cons (.int i t) .nil
        refine repr_of_reads' rd hs (fun _ h => ?_) hG ?_ (fun _ _ e => e) (fun h' t k keep => ⟨.str _, H, I.kept keep, ⟨_, rfl⟩, q⟩) hz
        · have e : sysModules = a := by simpa using h
          rw [← e] at sys
          simp at sys
        · have : (PyData.dict [(.str k, .int i)]).depth ≤ 2 := by
            simp [PyData.depth, PyData.depthKv]
          omega
end
end WH
namespace WH
open PySem PySem.Spec PyProof.Rows L2
def topS (i : Nat) : Stmt := PySem.Challenge.pw_wordhulls_k01_errors_and_their_values.main.body.getD i (.Pass ⟨0, 0, 0, 0⟩)
abbrev sEInit : Stmt := inClass (topS 1) 0
abbrev sPool : Stmt := topS 12
abbrev sDraw : Stmt := topS 13
abbrev sFlags : Stmt := topS 14
abbrev sAll : Stmt := topS 15
abbrev sFits : Stmt := topS 16
abbrev sLaw : Stmt := topS 17
def SameBut (p : Addr) (H H' : Hp) : Prop := ∀ b o, b ≠ p → H b = some o → H' b = some o
theorem SameBut.refl {p : Addr} {H : Hp} : SameBut p H H := fun _ _ _ h => h
theorem SameBut.trans {p : Addr} {H H1 H2 : Hp} (a : SameBut p H H1) (b : SameBut p H1 H2) : SameBut p H H2 := fun c o n h => b c o n (a c o n h)
theorem SameBut.free {p l : Addr} {H H' : Hp} (s : SameBut p H H') (n : l ≠ p) (h : H' l = none) : H l = none := by
  cases q : H l with
  | none => rfl
  | some o =>
    rw [s l o n q] at h
    cases h
theorem Same.but {p : Addr} {H H' : Hp} (s : Same H H') : SameBut p H H' := fun b o _ h => s b o h
/-- what is at the pool: three numbers, at most n drawn ones -/
def PoolAt (H : Hp) (p : Addr) (n : Int) : Prop := ∃ p0 p1 p2 : Int, H p = some (.lst [.int p0, .int p1, .int p2]) ∧ 0 ≤ p0 ∧ 0 ≤ p1 ∧ p1 < 4611686018427387904 ∧ 0 ≤ p2 ∧ p2 ≤ n
theorem PoolAt.same {H H' : Hp} {p : Addr} {n : Int} (h : PoolAt H p n) (s : Same H H') : PoolAt H' p n := by
  obtain ⟨a, b, c, h1, h2⟩ := h
  exact ⟨a, b, c, s _ _ h1, h2⟩
theorem PoolAt.le {H : Hp} {p : Addr} {n m : Int} (h : PoolAt H p n) (l : n ≤ m) : PoolAt H p m := by
  obtain ⟨a, b, c, h1, h2, h3, h4, h5, h6⟩ := h
  exact ⟨a, b, c, h1, h2, h3, h4, h5, by omega⟩
theorem atI_int {α : Type} {xs : List α} {e : Int} (h0 : 0 ≤ e) (h : e.toNat < xs.length) : atI xs e = some xs[e.toNat] := by
  have e1 : (e.toNat : Int) = e := by omega
  have := atI_nat (List.getElem?_eq_getElem h)
  rwa [e1] at this
theorem at0 {x y z : V} : atI [x, y, z] 0 = some x := atI_nat (j := 0) rfl
theorem at1 {x y z : V} : atI [x, y, z] 1 = some y := atI_nat (j := 1) rfl
theorem at2 {x y z : V} : atI [x, y, z] 2 = some z := atI_nat (j := 2) rfl
section
variable {P : Program} {w : World} {K : PySem.W.Frag} {mg : Str → Option Value} {base : Heap}
theorem scPool : FnScope ["script", "spot", "cell"] ["script", "spot"] (defScope sPool) := ⟨rfl, rfl, rfl, by decide +kernel, rfl, by decide +kernel, by decide +kernel⟩
def spPool (K : PySem.W.Frag) : Sp := fun vs H Q _ => ∃ (a : Addr) (ns : List Int) (i : Nat), vs = [.ref a, .int i] ∧ SqL K H a (ns.map V.int) ∧ i ≤ 100 ∧ ∀ p H', H p = none → Same H H' → PoolAt H' p 0 → Q (.ref p) H'
structure Bu (mg : Str → Option Value) : Prop where
  len : mg "len" = none
  max : mg "max" = none
  min : mg "min" = none
  abs : mg "abs" = none
  int : mg "int" = none
  range : mg "range" = none
theorem pool_num {x : Int} {i : Nat} (hi : i ≤ 100) : 0 ≤ x.fmod 2305843009213693951 + 7368787 * ((i : Int) + 1) ∧ x.fmod 2305843009213693951 + 7368787 * ((i : Int) + 1) < 4611686018427387904 := by
  rw [Int.fmod_eq_emod_of_nonneg _ (by decide)]
  have h1 := Int.emod_nonneg x (show (2305843009213693951 : Int) ≠ 0 by decide)
  have h2 := Int.emod_lt_of_pos x (show (0 : Int) < 2305843009213693951 by decide)
  omega
theorem ok_pool {f : Addr} {fd : FuncData} {k : Nat} (F : Fun K "_law_pool" "_law_pool" sPool f fd) (B : Bu mg) : FnOk P w K mg base CX0 (k + 1) f fd ["script", "spot"] (spPool K) := by
  refine F.ok scPool (fun vs H Q E h => ?_) (fun cdv A outer s H vs Q E hr h => ?_)
  · obtain ⟨a, ns, i, rfl, _⟩ := h
    rfl
  · obtain ⟨a, ns, i, rfl, hS, hi, q⟩ := h
    refine ⟨_, pss_cons (ps_set (i := 2) scPool.nd rfl (Or.inl rfl) pe_int)
      (pss_cons (ps_if (pt_cmpR op_lt (pv 1) (pe_callB call_len_seq (by rfl) B.len PySem.boot_len (pa_cons (pv 0) pa_nil)) (nomark _))
        (pss_one (ps_set (i := 2) scPool.nd rfl (Or.inl rfl) (pe_ix ix_list (pv 0) (pv 1) (fun _ _ => rfl)))) pss_nil)
      (pss_one (ps_ret (pe_lst (pa_cons (pe_callB (call_max2 rfl) (by rfl) B.max (by decide +kernel) (pa_cons pe_int (pa_cons (pe_op op_sub (pe_callB call_abs (by rfl) B.abs (by decide +kernel) (pa_cons (pv 2) pa_nil)) (pe_op op_pow pe_int pe_int)) pa_nil)))
        (pa_cons (pe_op op_add (pe_op op_modN (pe_callTy call_int1 (by rfl) B.int (by decide +kernel) (pa_cons (pv 2) pa_nil)) pe_int) (pe_op op_mul pe_int (pe_op op_add (pv 1) pe_int)))
        (pa_cons pe_int pa_nil))))))), ?_⟩
    have fin : ∀ x : Int, ∀ (p : Addr), H p = none → Q (.ref p) (upd H p (.lst [.int (if (if x < 0 then -x else x) - 10 ^ (18 : Int).toNat > 0 then (if x < 0 then -x else x) - 10 ^ (18 : Int).toNat else 0), .int (x.fmod 2305843009213693951 + 7368787 * ((i : Int) + 1)), .int 0])) := by
      intro x p np
      have h := pool_num (x := x) hi
      refine q p _ np (same_upd np) ⟨_, _, _, upd_same, ?_, h.1, h.2, by omega, by omega⟩
      split <;> omega
    refine ⟨_, rfl, _, rfl, a, _, rfl, .inl hS, _, _, rfl, rfl, _, rfl, ?_⟩
    by_cases c : (i : Int) < ((ns.map V.int).length : Nat)
    · rw [decide_eq_true c]
      refine iteT ?_
      have hl : i < ns.length := by
        rw [List.length_map] at c
        omega
      refine ⟨_, rfl, _, rfl, a, _, _, .int ns[i], rfl, rfl, hS, atI_nat (by simp [hl]), ?_⟩
      refine ⟨_, rfl, _, rfl, _, _, rfl, rfl, ⟨by decide, by decide, by decide⟩, _, _, rfl, rfl, _, _, rfl, ?_⟩
      exact ⟨_, rfl, .inl ⟨_, rfl, _, _, rfl, rfl, (show (2305843009213693951 : Int) ≠ 0 by decide), _, rfl, _, _, rfl, rfl, _, _, rfl, rfl, .inl ⟨by decide, by decide⟩, _, _, rfl, rfl, (by show 3 ≤ sizeLine; decide), fun p np => fin _ p np⟩⟩
    · rw [decide_eq_false c]
      refine iteF ?_
      refine ⟨_, rfl, _, rfl, _, _, rfl, rfl, ⟨by decide, by decide, by decide⟩, _, _, rfl, rfl, _, _, rfl, ?_⟩
      exact ⟨_, rfl, .inl ⟨_, rfl, _, _, rfl, rfl, (show (2305843009213693951 : Int) ≠ 0 by decide), _, rfl, _, _, rfl, rfl, _, _, rfl, rfl, .inl ⟨by decide, by decide⟩, _, _, rfl, rfl, (by show 3 ≤ sizeLine; decide), fun p np => fin _ p np⟩⟩
theorem scDraw : FnScope ["pool", "span", "drawn", "mixed"] ["pool", "span"] (defScope sDraw) := ⟨rfl, rfl, rfl, by decide +kernel, rfl, by decide +kernel, by decide +kernel⟩
def spDraw : Sp := fun vs H Q _ => ∃ (p : Addr) (k n : Int), vs = [.ref p, .int k] ∧ PoolAt H p n ∧ n < 1000000 ∧ 0 < k ∧ k < 1606938044258990275541962092341162602522202993782792835301376 ∧
  ∀ (d : Int) H', 0 ≤ d → d < k → PoolAt H' p (n + 1) → SameBut p H H' → Q (.int d) H'
theorem fm_lo {x k : Int} (h : 0 < k) : 0 ≤ x.fmod k := by
  rw [Int.fmod_eq_emod_of_nonneg _ (by omega)]
  exact Int.emod_nonneg x (by omega)
theorem fm_hi {x k : Int} (h : 0 < k) : x.fmod k < k := by
  rw [Int.fmod_eq_emod_of_nonneg _ (by omega)]
  exact Int.emod_lt_of_pos x h
theorem but_upd {H : Hp} {p : Addr} {o : HO} : SameBut p H (upd H p o) := fun b x n h => by
  rw [upd_ne n]
  exact h
theorem ok_draw {f : Addr} {fd : FuncData} {k : Nat} (F : Fun K "_law_draw" "_law_draw" sDraw f fd) (B : Bu mg) : FnOk P w K mg base CX0 (k + 1) f fd ["pool", "span"] spDraw := by
  refine F.ok scDraw (fun vs H Q E h => ?_) (fun cdv A outer s H vs Q E hr h => ?_)
  · obtain ⟨p, k, n, rfl, _⟩ := h
    rfl
  · obtain ⟨p, k, n, rfl, ⟨p0, p1, p2, hp, h0, h1, h1', h2, h2'⟩, hn, hk, hk', q⟩ := h
    have L0 : SqL K H p [.int p0, .int p1, .int p2] := SqL.of hp
    refine ⟨_, pss_cons (ps_if (pt_cmpR op_gt (pe_ix ix_list (pv 0) pe_int (fun _ _ => rfl)) pe_int (nomark _))
        (pss_cons (ps_set (i := 2) scDraw.nd rfl (Or.inl rfl) (pe_op op_modN (pe_callTy call_int1 (by rfl) B.int (by decide +kernel) (pa_cons (pe_ix ix_list (pv 0) pe_int (fun _ _ => rfl)) pa_nil)) (pv 1)))
        (pss_cons (ps_asg (pe_op op_fdivW (pe_ix ix_list (pv 0) pe_int (fun _ _ => rfl)) (pv 1)) (pg_sub (pv 0) pe_int set_list))
        (pss_one (ps_ret (pv 2))))) pss_nil)
      (pss_cons (ps_asg (pe_op op_add (pe_ix ix_list (pv 0) pe_int (fun _ _ => rfl)) pe_int) (pg_sub (pv 0) pe_int set_list))
      (pss_cons (ps_set (i := 3) scDraw.nd rfl (Or.inl rfl) (pe_op op_modN (pe_callTy call_int1 (by rfl) B.int (by decide +kernel) (pa_cons (pe_op op_powW (pe_op op_add (pe_ix ix_list (pv 0) pe_int (fun _ _ => rfl)) (pe_op op_mul pe_int (pe_ix ix_list (pv 0) pe_int (fun _ _ => rfl)))) pe_int) pa_nil)) pe_int))
      (pss_cons (ps_set (i := 3) scDraw.nd rfl (Or.inl rfl) (pe_op op_modN (pe_callTy call_int1 (by rfl) B.int (by decide +kernel) (pa_cons (pe_op op_powW (pe_op op_add (pv 3) (pe_op op_mul pe_int (pe_ix ix_list (pv 0) pe_int (fun _ _ => rfl)))) pe_int) pa_nil)) pe_int))
      (pss_one (ps_ret (pe_op op_modN (pe_callTy call_int1 (by rfl) B.int (by decide +kernel) (pa_cons (pe_op op_fdivN (pv 3) pe_int) pa_nil)) (pv 1))))))), ?_⟩
    refine ⟨_, rfl, p, _, _, _, rfl, rfl, L0, at0, _, _, rfl, rfl, _, rfl, ?_⟩
    by_cases c : (0 : Int) < p0
    · rw [decide_eq_true c]
      refine iteT ?_
      refine ⟨_, rfl, p, _, _, _, rfl, rfl, L0, at0, .inl ⟨_, rfl, _, rfl, _, _, rfl, rfl, (by omega), ?_⟩⟩
      refine ⟨_, rfl, p, _, _, _, rfl, rfl, L0, at0, _, rfl, _, _, rfl, rfl, ⟨hk, ?_⟩, ?_⟩
      · exact Nat.lt_of_lt_of_le (PySem.Flt.log2_lt_of (k := 200) (by decide) (by omega)) (by decide)
      refine ⟨_, rfl, p, _, _, 0, rfl, rfl, hp, rfl, ?_⟩
      refine ⟨_, rfl, q _ _ (fm_lo hk) (fm_hi hk) ⟨_, _, _, upd_same, ?_, h1, h1', h2, by omega⟩ but_upd⟩
      exact Int.ediv_nonneg h0 (by omega)
    · rw [decide_eq_false c]
      refine iteF ?_
      refine ⟨_, rfl, p, _, _, _, rfl, rfl, L0, at2, _, _, rfl, rfl, _, rfl, p, _, _, 2, rfl, rfl, hp, rfl, ?_⟩
      have L1 : SqL K (upd H p (.lst [.int p0, .int p1, .int (p2 + 1)])) p [.int p0, .int p1, .int (p2 + 1)] := SqL.of upd_same
      refine ⟨_, rfl, p, _, _, _, rfl, rfl, L1, at1, _, rfl, p, _, _, _, rfl, rfl, L1, at2, _, _, rfl, rfl, .inl ⟨by decide, by decide⟩, _, _, rfl, rfl, _, _, rfl, rfl, ⟨by decide, by decide, ?_⟩, ?_⟩
      · exact log2_small (n := 100) (by omega) (by omega) (by decide) (by decide)
      refine .inl ⟨_, rfl, _, _, rfl, rfl, (show (162259276829213363391578010288127 : Int) ≠ 0 by decide), ?_⟩
      have m0 : 0 ≤ ((p1 + 15485863 * (p2 + 1)) ^ (3 : Int).toNat).fmod 162259276829213363391578010288127 := fm_lo (by decide)
      have m1 : ((p1 + 15485863 * (p2 + 1)) ^ (3 : Int).toNat).fmod 162259276829213363391578010288127 < 162259276829213363391578010288127 := fm_hi (by decide)
      refine ⟨_, rfl, _, rfl, p, _, _, _, rfl, rfl, L1, at2, _, _, rfl, rfl, .inl ⟨by decide, by decide⟩, _, _, rfl, rfl, _, _, rfl, rfl, ⟨by decide, by decide, ?_⟩, ?_⟩
      · exact log2_small (n := 200) (by omega) (by omega) (by decide) (by decide)
      refine .inl ⟨_, rfl, _, _, rfl, rfl, (show (170141183460469231731687303715884105727 : Int) ≠ 0 by decide), ?_⟩
      refine ⟨_, rfl, _, _, rfl, rfl, ⟨by decide, by decide⟩, .inl ⟨_, rfl, _, rfl, _, _, rfl, rfl, (by omega), ?_⟩⟩
      exact q _ _ (fm_lo hk) (fm_hi hk) ⟨_, _, _, upd_same, h0, h1, h1', by omega, by omega⟩ but_upd
end

section
variable {P : Program} {w : World} {K : PySem.W.Frag} {mg : Str → Option Value} {base : Heap}
/-! ### errors: WordError.__init__, and what an error class must be -/
structure ErrC (K : PySem.W.Frag) (mg : Str → Option Value) (x : Str) (C fI : Addr) : Prop where
  o : OexC K C
  g : mg x = some (.ref C)
  nv : PySem.W.findIn K (.ref C) "value" = some none
  i : PySem.W.findIn K (.ref C) "__init__" = some (some (.ref fI))
  t : PySem.W.typeIn K (.ref fI) = some (.type "function")
theorem scEInit : FnScope ["self", "value"] ["self", "value"] (defScope sEInit) := ⟨rfl, rfl, rfl, by decide +kernel, rfl, by decide +kernel, by decide +kernel⟩
def spEInit (K : PySem.W.Frag) : Sp := fun vs H Q _ => ∃ (a C : Addr) (v : V), vs = [.ref a, v] ∧ OexC K C ∧ PySem.W.findIn K (.ref C) "value" = some none ∧ H a = some (exo a C none) ∧
  ∀ dx, H dx = none → dx ≠ a → Q .non (upd (upd H dx (exd dx [("value", v)])) a (exo a C (some dx)))
theorem ok_einit {f : Addr} {fd : FuncData} {k : Nat} (F : Fun K "__init__" "WordError.__init__" sEInit f fd) : FnOk P w K mg base CX0 (k + 1) f fd ["self", "value"] (spEInit K) := by
  refine F.ok scEInit (fun vs H Q E h => ?_) (fun cdv A outer s H vs Q E hr h => ?_)
  · obtain ⟨a, C, v, rfl, _⟩ := h
    rfl
  · obtain ⟨a, C, v, rfl, T, nv, ha, q⟩ := h
    refine ⟨_, pss_one (ps_ost (pv 0) (pv 1)), ?_⟩
    exact ⟨_, rfl, _, rfl, a, C, rfl, T, nv, .inl ⟨ha, fun dx n1 n2 => q dx n1 n2⟩⟩
/-- what such an error leaves: its own dict, new, holds the value -/
def ErrAt (C : Addr) (v : V) (H : Hp) (E : XK) : Prop := ∀ (d : Addr) (H' : Hp), H d = none → Same H H' → H' d = some (.xd [(("value" : Str), v)]) → E (.ref C) (some d) H'
theorem made_err {C : Addr} {v : V} {H : Hp} {W : Value → Option Addr → Hp → Prop} (T : OexC K C) (nv : PySem.W.findIn K (.ref C) "value" = some none) (h : ErrAt C v H W) : ∀ a, H a = none → spEInit K (.ref a :: ([v] ++ [])) (upd H a (exo a C none)) (fun z H2 => z = .non ∧
    ∃ (d : Addr) (fs : List (Str × V)), H2 a = some (exo a C (some d)) ∧ H2 d = some (exd d fs) ∧ H d = none ∧ W (.ref C) (some d) (upd (del H2 a) d (.xd fs))) (fun _ _ _ => False) := by
  intro a na
  refine ⟨a, C, v, rfl, T, nv, upd_same, fun dx n1 n2 => ⟨rfl, dx, _, upd_same, by rw [upd_ne n2, upd_same], ?_, ?_⟩⟩
  · rw [upd_ne n2] at n1
    exact n1
  · have n1' : H dx = none := by
      rw [upd_ne n2] at n1
      exact n1
    refine h dx _ n1' (fun b o e => ?_) upd_same
    have nb : b ≠ a := ne_of_none e na
    have nd : b ≠ dx := ne_of_none e n1'
    rw [upd_ne nd, del_ne nb, upd_ne nb, upd_ne nd, upd_ne nb]
    exact e
end

structure Cal (P : Program) (w : World) (K : PySem.W.Frag) (mg : Str → Option Value) (base : Heap) (k : Nat) (x : Str) (ps : List Str) (sp : Sp) (f : Addr) (fd : FuncData) : Prop where
  G : FnOk P w K mg base CX0 k f fd ps sp
  b : Binds K fd ps []
  k : PySem.W.keepIn K (.ref f) = true
  g : mg x = some (.ref f)
/-- the ten classes -/
structure Ten (K : PySem.W.Frag) (mg : Str → Option Value) (c0 c1 c2 c3 c4 c5 c6 c7 c8 cE fI : Addr) : Prop where
  ec0 : ErrC K mg "InvalidWord" c0 fI
  ec1 : ErrC K mg "InvalidNumber" c1 fI
  ec2 : ErrC K mg "InvalidText" c2 fI
  ec3 : ErrC K mg "InvalidReading" c3 fI
  ec4 : ErrC K mg "NotOneWay" c4 fI
  ec5 : ErrC K mg "NotApart" c5 fI
  ec6 : ErrC K mg "NothingToUndo" c6 fI
  ec7 : ErrC K mg "TooMany" c7 fI
  ec8 : ErrC K mg "Unreadable" c8 fI
  ecE : ErrC K mg "WordError" cE fI
  gV : mg "ValueError" = none
/-- what is known of one of them: its errors, which of the nine it is -/
structure One (K : PySem.W.Frag) (c0 c1 c2 c3 c4 c5 c6 c7 c8 cE D : Addr) (b : Nat → Bool) : Prop where
  ex : ExcC K D
  xf : XfC K D
  nv : PySem.W.findIn K (.ref D) "value" = some none
  kV : PySem.W.kitOne K (.ref D) (.type "ValueError") = some true
  kE : PySem.W.kitOne K (.ref D) (.ref cE) = some true
  k0 : PySem.W.kitOne K (.ref D) (.ref c0) = some (b 0)
  k1 : PySem.W.kitOne K (.ref D) (.ref c1) = some (b 1)
  k2 : PySem.W.kitOne K (.ref D) (.ref c2) = some (b 2)
  k3 : PySem.W.kitOne K (.ref D) (.ref c3) = some (b 3)
  k4 : PySem.W.kitOne K (.ref D) (.ref c4) = some (b 4)
  k5 : PySem.W.kitOne K (.ref D) (.ref c5) = some (b 5)
  k6 : PySem.W.kitOne K (.ref D) (.ref c6) = some (b 6)
  k7 : PySem.W.kitOne K (.ref D) (.ref c7) = some (b 7)
  k8 : PySem.W.kitOne K (.ref D) (.ref c8) = some (b 8)
theorem exv_made {H : Hp} {a C dx : Addr} {v : V} (na : H a = none) (ndx : upd H a (exo a C none) dx = none) (ne : dx ≠ a) : ∃ H1, upd (upd (upd H a (exo a C none)) dx (exd dx [(("value" : Str), v)])) a (exo a C (some dx)) = H1 ∧ Same H H1 ∧ ExV H1 a C [(("value" : Str), v)] := by
  have nd : H dx = none := by
    rw [upd_ne ne] at ndx
    exact ndx
  refine ⟨_, rfl, fun b o e => ?_, dx, upd_same, by rw [upd_ne ne, upd_same]⟩
  have nb : b ≠ a := ne_of_none e na
  have nbd : b ≠ dx := ne_of_none e nd
  rw [upd_ne nb, upd_ne nbd, upd_ne nb]
  exact e
def V10 (v : V) (Ds as : List Addr) (H : Hp) : Prop := as.length = 10 ∧ ∀ (i : Nat) (a D : Addr), as[i]? = some a → Ds[i]? = some D → ExV H a D [(("value" : Str), v)]
theorem V10.same {v : V} {Ds as : List Addr} {H H' : Hp} (h : V10 v Ds as H) (s : Same H H') : V10 v Ds as H' := ⟨h.1, fun i a D h1 h2 => (h.2 i a D h1 h2).same s⟩
section
variable {P : Program} {w : World} {K : PySem.W.Frag} {mg : Str → Option Value} {base : Heap}
theorem scFlags : FnScope ["e", "found"] ["e"] (defScope sFlags) := ⟨rfl, rfl, rfl, by decide +kernel, rfl, by decide +kernel, by decide +kernel⟩
def spFlags (K : PySem.W.Frag) (c0 c1 c2 c3 c4 c5 c6 c7 c8 cE : Addr) : Sp := fun vs H Q _ => ∃ (a D : Addr) (fs : List (Str × V)) (b : Nat → Bool), vs = [.ref a] ∧ ExV H a D fs ∧ One K c0 c1 c2 c3 c4 c5 c6 c7 c8 cE D b ∧ ∀ l H', H l = none → Same H H' → H' l = some (.lst ((List.range 9).map fun j => V.bl (b j))) → Q (.ref l) H'
theorem ok_flags {f c0 c1 c2 c3 c4 c5 c6 c7 c8 cE fI : Addr} {fd : FuncData} (F : Fun K "_law_flags" "_law_flags" sFlags f fd) (T : Ten K mg c0 c1 c2 c3 c4 c5 c6 c7 c8 cE fI) (mi : mg "isinstance" = none) : FnOk P w K mg base CX0 1 f fd ["e"] (spFlags K c0 c1 c2 c3 c4 c5 c6 c7 c8 cE) := by
  refine F.ok scFlags (fun vs H Q E h => ?_) (fun cdv A outer s H vs Q E hr h => ?_)
  · obtain ⟨a, D, fs, b, rfl, _⟩ := h
    rfl
  · obtain ⟨a, D, fs, b, rfl, hv, O, q⟩ := h
    refine ⟨_, (pss_cons (ps_set (i := 1) scFlags.nd rfl (Or.inl rfl) (pe_lst (pa_cons (pe_callB call_isV (by rfl) mi (by decide +kernel) (pa_cons (pv 0) (pa_cons (pe_glob (v := .ref c0) rfl T.ec0.g rfl) pa_nil))) (pa_cons (pe_callB call_isV (by rfl) mi (by decide +kernel) (pa_cons (pv 0) (pa_cons (pe_glob (v := .ref c1) rfl T.ec1.g rfl) pa_nil))) (pa_cons (pe_callB call_isV (by rfl) mi (by decide +kernel) (pa_cons (pv 0) (pa_cons (pe_glob (v := .ref c2) rfl T.ec2.g rfl) pa_nil))) pa_nil)))))
      (pss_cons (ps_set (i := 1) scFlags.nd rfl (Or.inl rfl) (pe_op op_cat (pv 1) (pe_lst (pa_cons (pe_callB call_isV (by rfl) mi (by decide +kernel) (pa_cons (pv 0) (pa_cons (pe_glob (v := .ref c3) rfl T.ec3.g rfl) pa_nil))) (pa_cons (pe_callB call_isV (by rfl) mi (by decide +kernel) (pa_cons (pv 0) (pa_cons (pe_glob (v := .ref c4) rfl T.ec4.g rfl) pa_nil))) (pa_cons (pe_callB call_isV (by rfl) mi (by decide +kernel) (pa_cons (pv 0) (pa_cons (pe_glob (v := .ref c5) rfl T.ec5.g rfl) pa_nil))) pa_nil))))))
      (pss_one (ps_ret (pe_op op_cat (pv 1) (pe_lst (pa_cons (pe_callB call_isV (by rfl) mi (by decide +kernel) (pa_cons (pv 0) (pa_cons (pe_glob (v := .ref c6) rfl T.ec6.g rfl) pa_nil))) (pa_cons (pe_callB call_isV (by rfl) mi (by decide +kernel) (pa_cons (pv 0) (pa_cons (pe_glob (v := .ref c7) rfl T.ec7.g rfl) pa_nil))) (pa_cons (pe_callB call_isV (by rfl) mi (by decide +kernel) (pa_cons (pv 0) (pa_cons (pe_glob (v := .ref c8) rfl T.ec8.g rfl) pa_nil))) pa_nil))))))))), ?_⟩
    refine ⟨_, rfl, a, D, fs, .ref c0, _, b 0, rfl, hv, O.ex, .own c0, O.k0, _, rfl, a, D, fs, .ref c1, _, b 1, rfl, hv, O.ex, .own c1, O.k1, _, rfl, a, D, fs, .ref c2, _, b 2, rfl, hv, O.ex, .own c2, O.k2, (by show 3 ≤ sizeLine; decide), fun p1 n1 => ?_⟩
    have s1 := same_upd (o := .lst [.bl (b 0), .bl (b 1), .bl (b 2)]) n1
    have hv1 := hv.same s1
    refine ⟨_, rfl, _, rfl, a, D, fs, .ref c3, _, b 3, rfl, hv1, O.ex, .own c3, O.k3, _, rfl, a, D, fs, .ref c4, _, b 4, rfl, hv1, O.ex, .own c4, O.k4, _, rfl, a, D, fs, .ref c5, _, b 5, rfl, hv1, O.ex, .own c5, O.k5, (by show 3 ≤ sizeLine; decide), fun p2 n2 => ?_⟩
    have s2 := same_upd (o := .lst [.bl (b 3), .bl (b 4), .bl (b 5)]) n2
    refine ⟨p1, p2, _, _, rfl, rfl, s2 _ _ upd_same, upd_same, (by show 3 + 3 ≤ sizeLine; decide), fun p3 n3 => ?_⟩
    have s3 := same_upd (o := .lst ([.bl (b 0), .bl (b 1), .bl (b 2)] ++ [.bl (b 3), .bl (b 4), .bl (b 5)])) n3
    have hv3 := (hv1.same s2).same s3
    refine ⟨_, rfl, _, rfl, a, D, fs, .ref c6, _, b 6, rfl, hv3, O.ex, .own c6, O.k6, _, rfl, a, D, fs, .ref c7, _, b 7, rfl, hv3, O.ex, .own c7, O.k7, _, rfl, a, D, fs, .ref c8, _, b 8, rfl, hv3, O.ex, .own c8, O.k8, (by show 3 ≤ sizeLine; decide), fun p4 n4 => ?_⟩
    have s4 := same_upd (o := .lst [.bl (b 6), .bl (b 7), .bl (b 8)]) n4
    refine ⟨p3, p4, _, _, rfl, rfl, s4 _ _ upd_same, upd_same, (by show 6 + 3 ≤ sizeLine; decide), fun l nl => ?_⟩
    have s14 := ((s1.trans s2).trans s3).trans s4
    exact q l _ (s14.free nl) (s14.trans (same_upd nl)) upd_same
theorem scAll : FnScope ["thing", "is_named", "found"] ["thing", "is_named"] (defScope sAll) := ⟨rfl, rfl, rfl, by decide +kernel, rfl, by decide +kernel, by decide +kernel⟩
def spAll (c0 c1 c2 c3 c4 c5 c6 c7 c8 cE : Addr) : Sp := fun vs H Q _ => ∃ (v : V) (nd : Bool), vs = [v, .bl nd] ∧ ∀ l as H', H l = none → Same H H' → H' l = some (.lst (as.map V.ref)) → V10 v [c0, c1, c2, c3, c4, c5, c6, c7, c8, cE] as H' → Q (.ref l) H'
theorem ok_all {f c0 c1 c2 c3 c4 c5 c6 c7 c8 cE fI : Addr} {fd fdI : FuncData} (F : Fun K "_law_all" "_law_all" sAll f fd) (T : Ten K mg c0 c1 c2 c3 c4 c5 c6 c7 c8 cE fI) (GI : FnOk P w K mg base CX0 1 fI fdI ["self", "value"] (spEInit K)) (bI : Binds K fdI ["self", "value"] []) (kbI : KBn K fdI ["self", "value"] 1 ["value"] (fun us ws => us ++ ws) (fun us ws => us ++ ws)) :
    FnOk P w K mg base CX0 3 f fd ["thing", "is_named"] (spAll c0 c1 c2 c3 c4 c5 c6 c7 c8 cE) := by
  refine F.ok scAll (fun vs H Q E h => ?_) (fun cdv A outer s H vs Q E hr h => ?_)
  · obtain ⟨v, nd, rfl, _⟩ := h
    rfl
  · obtain ⟨v, nd, rfl, q⟩ := h
    have hr2 : Room 2 _ := hr
    refine ⟨_, (pss_cons (ps_if (pt_val (pv 1)) (pss_cons (ps_set (i := 2) scAll.nd rfl (Or.inl rfl) (pe_lst (pa_cons (pe_oexK T.ec0.o T.ec0.i T.ec0.t GI hr2 kbI pass0 (by rfl) T.ec0.g (pk_cons (pv 0) pk_nil)) (pa_cons (pe_oexK T.ec1.o T.ec1.i T.ec1.t GI hr2 kbI pass0 (by rfl) T.ec1.g (pk_cons (pv 0) pk_nil)) (pa_cons (pe_oexK T.ec2.o T.ec2.i T.ec2.t GI hr2 kbI pass0 (by rfl) T.ec2.g (pk_cons (pv 0) pk_nil)) pa_nil)))))
      (pss_cons (ps_set (i := 2) scAll.nd rfl (Or.inl rfl) (pe_op op_cat (pv 2) (pe_lst (pa_cons (pe_oexK T.ec3.o T.ec3.i T.ec3.t GI hr2 kbI pass0 (by rfl) T.ec3.g (pk_cons (pv 0) pk_nil)) (pa_cons (pe_oexK T.ec4.o T.ec4.i T.ec4.t GI hr2 kbI pass0 (by rfl) T.ec4.g (pk_cons (pv 0) pk_nil)) (pa_cons (pe_oexK T.ec5.o T.ec5.i T.ec5.t GI hr2 kbI pass0 (by rfl) T.ec5.g (pk_cons (pv 0) pk_nil)) pa_nil))))))
      (pss_cons (ps_set (i := 2) scAll.nd rfl (Or.inl rfl) (pe_op op_cat (pv 2) (pe_lst (pa_cons (pe_oexK T.ec6.o T.ec6.i T.ec6.t GI hr2 kbI pass0 (by rfl) T.ec6.g (pk_cons (pv 0) pk_nil)) (pa_cons (pe_oexK T.ec7.o T.ec7.i T.ec7.t GI hr2 kbI pass0 (by rfl) T.ec7.g (pk_cons (pv 0) pk_nil)) (pa_cons (pe_oexK T.ec8.o T.ec8.i T.ec8.t GI hr2 kbI pass0 (by rfl) T.ec8.g (pk_cons (pv 0) pk_nil)) pa_nil))))))
      (pss_one (ps_ret (pe_op op_cat (pv 2) (pe_lst (pa_cons (pe_oexK T.ecE.o T.ecE.i T.ecE.t GI hr2 kbI pass0 (by rfl) T.ecE.g (pk_cons (pv 0) pk_nil)) pa_nil)))))))) pss_nil)
      (pss_cons (ps_set (i := 2) scAll.nd rfl (Or.inl rfl) (pe_lst (pa_cons (pe_oex T.ec0.o T.ec0.i T.ec0.t GI hr2 bI pass0 (by rfl) T.ec0.g (pa_cons (pv 0) pa_nil)) (pa_cons (pe_oex T.ec1.o T.ec1.i T.ec1.t GI hr2 bI pass0 (by rfl) T.ec1.g (pa_cons (pv 0) pa_nil)) (pa_cons (pe_oex T.ec2.o T.ec2.i T.ec2.t GI hr2 bI pass0 (by rfl) T.ec2.g (pa_cons (pv 0) pa_nil)) (pa_cons (pe_oex T.ec3.o T.ec3.i T.ec3.t GI hr2 bI pass0 (by rfl) T.ec3.g (pa_cons (pv 0) pa_nil)) (pa_cons (pe_oex T.ec4.o T.ec4.i T.ec4.t GI hr2 bI pass0 (by rfl) T.ec4.g (pa_cons (pv 0) pa_nil)) pa_nil)))))))
      (pss_cons (ps_set (i := 2) scAll.nd rfl (Or.inl rfl) (pe_op op_cat (pv 2) (pe_lst (pa_cons (pe_oex T.ec5.o T.ec5.i T.ec5.t GI hr2 bI pass0 (by rfl) T.ec5.g (pa_cons (pv 0) pa_nil)) (pa_cons (pe_oex T.ec6.o T.ec6.i T.ec6.t GI hr2 bI pass0 (by rfl) T.ec6.g (pa_cons (pv 0) pa_nil)) (pa_cons (pe_oex T.ec7.o T.ec7.i T.ec7.t GI hr2 bI pass0 (by rfl) T.ec7.g (pa_cons (pv 0) pa_nil)) (pa_cons (pe_oex T.ec8.o T.ec8.i T.ec8.t GI hr2 bI pass0 (by rfl) T.ec8.g (pa_cons (pv 0) pa_nil)) pa_nil)))))))
      (pss_one (ps_ret (pe_op op_cat (pv 2) (pe_lst (pa_cons (pe_oex T.ecE.o T.ecE.i T.ecE.t GI hr2 bI pass0 (by rfl) T.ecE.g (pa_cons (pv 0) pa_nil)) pa_nil)))))))), ?_⟩
    refine ⟨_, rfl, nd, rfl, ?_⟩
    cases nd with
    | true =>
      refine iteT ?_
      have s0 := Same.refl H
      refine ⟨_, rfl, rfl, fun a0 na => ?_⟩
      refine ⟨a0, c0, v, rfl, T.ec0.o, T.ec0.nv, upd_same, fun dx ndx nda => ⟨rfl, ?_⟩⟩
      obtain ⟨H0, e0, t0, x0⟩ := exv_made (v := v) na ndx nda
      rw [e0]
      clear e0 na ndx nda
      have u0 := s0.trans t0
      refine ⟨_, rfl, rfl, fun a1 na => ?_⟩
      refine ⟨a1, c1, v, rfl, T.ec1.o, T.ec1.nv, upd_same, fun dx ndx nda => ⟨rfl, ?_⟩⟩
      obtain ⟨H1, e1, t1, x1⟩ := exv_made (v := v) na ndx nda
      rw [e1]
      clear e1 na ndx nda
      have u1 := u0.trans t1
      have x0 := x0.same t1
      refine ⟨_, rfl, rfl, fun a2 na => ?_⟩
      refine ⟨a2, c2, v, rfl, T.ec2.o, T.ec2.nv, upd_same, fun dx ndx nda => ⟨rfl, ?_⟩⟩
      obtain ⟨H2, e2, t2, x2⟩ := exv_made (v := v) na ndx nda
      rw [e2]
      clear e2 na ndx nda
      have u2 := u1.trans t2
      have x0 := x0.same t2
      have x1 := x1.same t2
      refine ⟨(by show 3 ≤ sizeLine; decide), fun p0 n0 => ?_⟩
      have w0 := same_upd (o := .lst [.ref a0, .ref a1, .ref a2]) n0
      have u := u2.trans w0
      have x0 := x0.same w0
      have x1 := x1.same w0
      have x2 := x2.same w0
      have m : (upd _ p0 (.lst [.ref a0, .ref a1, .ref a2])) p0 = _ := upd_same (H := H2)
      refine ⟨_, rfl, _, rfl, rfl, fun a3 na => ?_⟩
      refine ⟨a3, c3, v, rfl, T.ec3.o, T.ec3.nv, upd_same, fun dx ndx nda => ⟨rfl, ?_⟩⟩
      obtain ⟨H3, e3, t3, x3⟩ := exv_made (v := v) na ndx nda
      rw [e3]
      clear e3 na ndx nda
      have u3 := u.trans t3
      have x0 := x0.same t3
      have x1 := x1.same t3
      have x2 := x2.same t3
      have m := t3 _ _ m
      refine ⟨_, rfl, rfl, fun a4 na => ?_⟩
      refine ⟨a4, c4, v, rfl, T.ec4.o, T.ec4.nv, upd_same, fun dx ndx nda => ⟨rfl, ?_⟩⟩
      obtain ⟨H4, e4, t4, x4⟩ := exv_made (v := v) na ndx nda
      rw [e4]
      clear e4 na ndx nda
      have u4 := u3.trans t4
      have x0 := x0.same t4
      have x1 := x1.same t4
      have x2 := x2.same t4
      have x3 := x3.same t4
      have m := t4 _ _ m
      refine ⟨_, rfl, rfl, fun a5 na => ?_⟩
      refine ⟨a5, c5, v, rfl, T.ec5.o, T.ec5.nv, upd_same, fun dx ndx nda => ⟨rfl, ?_⟩⟩
      obtain ⟨H5, e5, t5, x5⟩ := exv_made (v := v) na ndx nda
      rw [e5]
      clear e5 na ndx nda
      have u5 := u4.trans t5
      have x0 := x0.same t5
      have x1 := x1.same t5
      have x2 := x2.same t5
      have x3 := x3.same t5
      have x4 := x4.same t5
      have m := t5 _ _ m
      refine ⟨(by show 3 ≤ sizeLine; decide), fun p1 n1 => ?_⟩
      have w1 := same_upd (o := .lst [.ref a3, .ref a4, .ref a5]) n1
      have u := u5.trans w1
      have x0 := x0.same w1
      have x1 := x1.same w1
      have x2 := x2.same w1
      have x3 := x3.same w1
      have x4 := x4.same w1
      have x5 := x5.same w1
      refine ⟨p0, p1, _, _, rfl, rfl, w1 _ _ m, upd_same, (by show 3 + 3 ≤ sizeLine; decide), fun r1 nr1 => ?_⟩
      have z1 := same_upd (o := .lst ([.ref a0, .ref a1, .ref a2] ++ [.ref a3, .ref a4, .ref a5])) nr1
      have uf := u
      have u := u.trans z1
      have x0 := x0.same z1
      have x1 := x1.same z1
      have x2 := x2.same z1
      have x3 := x3.same z1
      have x4 := x4.same z1
      have x5 := x5.same z1
      have m : (upd _ r1 (.lst ([.ref a0, .ref a1, .ref a2] ++ [.ref a3, .ref a4, .ref a5]))) r1 = _ := upd_same (H := upd H5 p1 (.lst [.ref a3, .ref a4, .ref a5]))
      refine ⟨_, rfl, _, rfl, rfl, fun a6 na => ?_⟩
      refine ⟨a6, c6, v, rfl, T.ec6.o, T.ec6.nv, upd_same, fun dx ndx nda => ⟨rfl, ?_⟩⟩
      obtain ⟨H6, e6, t6, x6⟩ := exv_made (v := v) na ndx nda
      rw [e6]
      clear e6 na ndx nda
      have u6 := u.trans t6
      have x0 := x0.same t6
      have x1 := x1.same t6
      have x2 := x2.same t6
      have x3 := x3.same t6
      have x4 := x4.same t6
      have x5 := x5.same t6
      have m := t6 _ _ m
      refine ⟨_, rfl, rfl, fun a7 na => ?_⟩
      refine ⟨a7, c7, v, rfl, T.ec7.o, T.ec7.nv, upd_same, fun dx ndx nda => ⟨rfl, ?_⟩⟩
      obtain ⟨H7, e7, t7, x7⟩ := exv_made (v := v) na ndx nda
      rw [e7]
      clear e7 na ndx nda
      have u7 := u6.trans t7
      have x0 := x0.same t7
      have x1 := x1.same t7
      have x2 := x2.same t7
      have x3 := x3.same t7
      have x4 := x4.same t7
      have x5 := x5.same t7
      have x6 := x6.same t7
      have m := t7 _ _ m
      refine ⟨_, rfl, rfl, fun a8 na => ?_⟩
      refine ⟨a8, c8, v, rfl, T.ec8.o, T.ec8.nv, upd_same, fun dx ndx nda => ⟨rfl, ?_⟩⟩
      obtain ⟨H8, e8, t8, x8⟩ := exv_made (v := v) na ndx nda
      rw [e8]
      clear e8 na ndx nda
      have u8 := u7.trans t8
      have x0 := x0.same t8
      have x1 := x1.same t8
      have x2 := x2.same t8
      have x3 := x3.same t8
      have x4 := x4.same t8
      have x5 := x5.same t8
      have x6 := x6.same t8
      have x7 := x7.same t8
      have m := t8 _ _ m
      refine ⟨(by show 3 ≤ sizeLine; decide), fun p2 n2 => ?_⟩
      have w2 := same_upd (o := .lst [.ref a6, .ref a7, .ref a8]) n2
      have u := u8.trans w2
      have x0 := x0.same w2
      have x1 := x1.same w2
      have x2 := x2.same w2
      have x3 := x3.same w2
      have x4 := x4.same w2
      have x5 := x5.same w2
      have x6 := x6.same w2
      have x7 := x7.same w2
      have x8 := x8.same w2
      refine ⟨r1, p2, _, _, rfl, rfl, w2 _ _ m, upd_same, (by show 6 + 3 ≤ sizeLine; decide), fun r2 nr2 => ?_⟩
      have z2 := same_upd (o := .lst (([.ref a0, .ref a1, .ref a2] ++ [.ref a3, .ref a4, .ref a5]) ++ [.ref a6, .ref a7, .ref a8])) nr2
      have uf := u
      have u := u.trans z2
      have x0 := x0.same z2
      have x1 := x1.same z2
      have x2 := x2.same z2
      have x3 := x3.same z2
      have x4 := x4.same z2
      have x5 := x5.same z2
      have x6 := x6.same z2
      have x7 := x7.same z2
      have x8 := x8.same z2
      have m : (upd _ r2 (.lst (([.ref a0, .ref a1, .ref a2] ++ [.ref a3, .ref a4, .ref a5]) ++ [.ref a6, .ref a7, .ref a8]))) r2 = _ := upd_same (H := upd H8 p2 (.lst [.ref a6, .ref a7, .ref a8]))
      refine ⟨_, rfl, _, rfl, rfl, fun a9 na => ?_⟩
      refine ⟨a9, cE, v, rfl, T.ecE.o, T.ecE.nv, upd_same, fun dx ndx nda => ⟨rfl, ?_⟩⟩
      obtain ⟨H9, e9, t9, x9⟩ := exv_made (v := v) na ndx nda
      rw [e9]
      clear e9 na ndx nda
      have u9 := u.trans t9
      have x0 := x0.same t9
      have x1 := x1.same t9
      have x2 := x2.same t9
      have x3 := x3.same t9
      have x4 := x4.same t9
      have x5 := x5.same t9
      have x6 := x6.same t9
      have x7 := x7.same t9
      have x8 := x8.same t9
      have m := t9 _ _ m
      refine ⟨(by show 1 ≤ sizeLine; decide), fun p3 n3 => ?_⟩
      have w3 := same_upd (o := .lst [.ref a9]) n3
      have u := u9.trans w3
      have x0 := x0.same w3
      have x1 := x1.same w3
      have x2 := x2.same w3
      have x3 := x3.same w3
      have x4 := x4.same w3
      have x5 := x5.same w3
      have x6 := x6.same w3
      have x7 := x7.same w3
      have x8 := x8.same w3
      have x9 := x9.same w3
      refine ⟨r2, p3, _, _, rfl, rfl, w3 _ _ m, upd_same, (by show 9 + 1 ≤ sizeLine; decide), fun r3 nr3 => ?_⟩
      have z3 := same_upd (o := .lst ((([.ref a0, .ref a1, .ref a2] ++ [.ref a3, .ref a4, .ref a5]) ++ [.ref a6, .ref a7, .ref a8]) ++ [.ref a9])) nr3
      have uf := u
      have u := u.trans z3
      have x0 := x0.same z3
      have x1 := x1.same z3
      have x2 := x2.same z3
      have x3 := x3.same z3
      have x4 := x4.same z3
      have x5 := x5.same z3
      have x6 := x6.same z3
      have x7 := x7.same z3
      have x8 := x8.same z3
      have x9 := x9.same z3
      refine q r3 [a0, a1, a2, a3, a4, a5, a6, a7, a8, a9] _ (uf.free nr3) u upd_same ⟨rfl, fun i a D h1 h2 => ?_⟩
      match i, h1, h2 with
      | 0, h1, h2 => cases h1; cases h2; exact x0
      | 1, h1, h2 => cases h1; cases h2; exact x1
      | 2, h1, h2 => cases h1; cases h2; exact x2
      | 3, h1, h2 => cases h1; cases h2; exact x3
      | 4, h1, h2 => cases h1; cases h2; exact x4
      | 5, h1, h2 => cases h1; cases h2; exact x5
      | 6, h1, h2 => cases h1; cases h2; exact x6
      | 7, h1, h2 => cases h1; cases h2; exact x7
      | 8, h1, h2 => cases h1; cases h2; exact x8
      | 9, h1, h2 => cases h1; cases h2; exact x9
      | n + 10, h1, h2 => simp at h1
    | false =>
      refine iteF ?_
      have s0 := Same.refl H
      refine ⟨_, rfl, (by show 1 ≤ 1000; decide), fun a0 na => ?_⟩
      refine ⟨a0, c0, v, rfl, T.ec0.o, T.ec0.nv, upd_same, fun dx ndx nda => ⟨rfl, ?_⟩⟩
      obtain ⟨H0, e0, t0, x0⟩ := exv_made (v := v) na ndx nda
      rw [e0]
      clear e0 na ndx nda
      have u0 := s0.trans t0
      refine ⟨_, rfl, (by show 1 ≤ 1000; decide), fun a1 na => ?_⟩
      refine ⟨a1, c1, v, rfl, T.ec1.o, T.ec1.nv, upd_same, fun dx ndx nda => ⟨rfl, ?_⟩⟩
      obtain ⟨H1, e1, t1, x1⟩ := exv_made (v := v) na ndx nda
      rw [e1]
      clear e1 na ndx nda
      have u1 := u0.trans t1
      have x0 := x0.same t1
      refine ⟨_, rfl, (by show 1 ≤ 1000; decide), fun a2 na => ?_⟩
      refine ⟨a2, c2, v, rfl, T.ec2.o, T.ec2.nv, upd_same, fun dx ndx nda => ⟨rfl, ?_⟩⟩
      obtain ⟨H2, e2, t2, x2⟩ := exv_made (v := v) na ndx nda
      rw [e2]
      clear e2 na ndx nda
      have u2 := u1.trans t2
      have x0 := x0.same t2
      have x1 := x1.same t2
      refine ⟨_, rfl, (by show 1 ≤ 1000; decide), fun a3 na => ?_⟩
      refine ⟨a3, c3, v, rfl, T.ec3.o, T.ec3.nv, upd_same, fun dx ndx nda => ⟨rfl, ?_⟩⟩
      obtain ⟨H3, e3, t3, x3⟩ := exv_made (v := v) na ndx nda
      rw [e3]
      clear e3 na ndx nda
      have u3 := u2.trans t3
      have x0 := x0.same t3
      have x1 := x1.same t3
      have x2 := x2.same t3
      refine ⟨_, rfl, (by show 1 ≤ 1000; decide), fun a4 na => ?_⟩
      refine ⟨a4, c4, v, rfl, T.ec4.o, T.ec4.nv, upd_same, fun dx ndx nda => ⟨rfl, ?_⟩⟩
      obtain ⟨H4, e4, t4, x4⟩ := exv_made (v := v) na ndx nda
      rw [e4]
      clear e4 na ndx nda
      have u4 := u3.trans t4
      have x0 := x0.same t4
      have x1 := x1.same t4
      have x2 := x2.same t4
      have x3 := x3.same t4
      refine ⟨(by show 5 ≤ sizeLine; decide), fun p0 n0 => ?_⟩
      have w0 := same_upd (o := .lst [.ref a0, .ref a1, .ref a2, .ref a3, .ref a4]) n0
      have u := u4.trans w0
      have x0 := x0.same w0
      have x1 := x1.same w0
      have x2 := x2.same w0
      have x3 := x3.same w0
      have x4 := x4.same w0
      have m : (upd _ p0 (.lst [.ref a0, .ref a1, .ref a2, .ref a3, .ref a4])) p0 = _ := upd_same (H := H4)
      refine ⟨_, rfl, _, rfl, (by show 1 ≤ 1000; decide), fun a5 na => ?_⟩
      refine ⟨a5, c5, v, rfl, T.ec5.o, T.ec5.nv, upd_same, fun dx ndx nda => ⟨rfl, ?_⟩⟩
      obtain ⟨H5, e5, t5, x5⟩ := exv_made (v := v) na ndx nda
      rw [e5]
      clear e5 na ndx nda
      have u5 := u.trans t5
      have x0 := x0.same t5
      have x1 := x1.same t5
      have x2 := x2.same t5
      have x3 := x3.same t5
      have x4 := x4.same t5
      have m := t5 _ _ m
      refine ⟨_, rfl, (by show 1 ≤ 1000; decide), fun a6 na => ?_⟩
      refine ⟨a6, c6, v, rfl, T.ec6.o, T.ec6.nv, upd_same, fun dx ndx nda => ⟨rfl, ?_⟩⟩
      obtain ⟨H6, e6, t6, x6⟩ := exv_made (v := v) na ndx nda
      rw [e6]
      clear e6 na ndx nda
      have u6 := u5.trans t6
      have x0 := x0.same t6
      have x1 := x1.same t6
      have x2 := x2.same t6
      have x3 := x3.same t6
      have x4 := x4.same t6
      have x5 := x5.same t6
      have m := t6 _ _ m
      refine ⟨_, rfl, (by show 1 ≤ 1000; decide), fun a7 na => ?_⟩
      refine ⟨a7, c7, v, rfl, T.ec7.o, T.ec7.nv, upd_same, fun dx ndx nda => ⟨rfl, ?_⟩⟩
      obtain ⟨H7, e7, t7, x7⟩ := exv_made (v := v) na ndx nda
      rw [e7]
      clear e7 na ndx nda
      have u7 := u6.trans t7
      have x0 := x0.same t7
      have x1 := x1.same t7
      have x2 := x2.same t7
      have x3 := x3.same t7
      have x4 := x4.same t7
      have x5 := x5.same t7
      have x6 := x6.same t7
      have m := t7 _ _ m
      refine ⟨_, rfl, (by show 1 ≤ 1000; decide), fun a8 na => ?_⟩
      refine ⟨a8, c8, v, rfl, T.ec8.o, T.ec8.nv, upd_same, fun dx ndx nda => ⟨rfl, ?_⟩⟩
      obtain ⟨H8, e8, t8, x8⟩ := exv_made (v := v) na ndx nda
      rw [e8]
      clear e8 na ndx nda
      have u8 := u7.trans t8
      have x0 := x0.same t8
      have x1 := x1.same t8
      have x2 := x2.same t8
      have x3 := x3.same t8
      have x4 := x4.same t8
      have x5 := x5.same t8
      have x6 := x6.same t8
      have x7 := x7.same t8
      have m := t8 _ _ m
      refine ⟨(by show 4 ≤ sizeLine; decide), fun p1 n1 => ?_⟩
      have w1 := same_upd (o := .lst [.ref a5, .ref a6, .ref a7, .ref a8]) n1
      have u := u8.trans w1
      have x0 := x0.same w1
      have x1 := x1.same w1
      have x2 := x2.same w1
      have x3 := x3.same w1
      have x4 := x4.same w1
      have x5 := x5.same w1
      have x6 := x6.same w1
      have x7 := x7.same w1
      have x8 := x8.same w1
      refine ⟨p0, p1, _, _, rfl, rfl, w1 _ _ m, upd_same, (by show 5 + 4 ≤ sizeLine; decide), fun r1 nr1 => ?_⟩
      have z1 := same_upd (o := .lst ([.ref a0, .ref a1, .ref a2, .ref a3, .ref a4] ++ [.ref a5, .ref a6, .ref a7, .ref a8])) nr1
      have uf := u
      have u := u.trans z1
      have x0 := x0.same z1
      have x1 := x1.same z1
      have x2 := x2.same z1
      have x3 := x3.same z1
      have x4 := x4.same z1
      have x5 := x5.same z1
      have x6 := x6.same z1
      have x7 := x7.same z1
      have x8 := x8.same z1
      have m : (upd _ r1 (.lst ([.ref a0, .ref a1, .ref a2, .ref a3, .ref a4] ++ [.ref a5, .ref a6, .ref a7, .ref a8]))) r1 = _ := upd_same (H := upd H8 p1 (.lst [.ref a5, .ref a6, .ref a7, .ref a8]))
      refine ⟨_, rfl, _, rfl, (by show 1 ≤ 1000; decide), fun a9 na => ?_⟩
      refine ⟨a9, cE, v, rfl, T.ecE.o, T.ecE.nv, upd_same, fun dx ndx nda => ⟨rfl, ?_⟩⟩
      obtain ⟨H9, e9, t9, x9⟩ := exv_made (v := v) na ndx nda
      rw [e9]
      clear e9 na ndx nda
      have u9 := u.trans t9
      have x0 := x0.same t9
      have x1 := x1.same t9
      have x2 := x2.same t9
      have x3 := x3.same t9
      have x4 := x4.same t9
      have x5 := x5.same t9
      have x6 := x6.same t9
      have x7 := x7.same t9
      have x8 := x8.same t9
      have m := t9 _ _ m
      refine ⟨(by show 1 ≤ sizeLine; decide), fun p2 n2 => ?_⟩
      have w2 := same_upd (o := .lst [.ref a9]) n2
      have u := u9.trans w2
      have x0 := x0.same w2
      have x1 := x1.same w2
      have x2 := x2.same w2
      have x3 := x3.same w2
      have x4 := x4.same w2
      have x5 := x5.same w2
      have x6 := x6.same w2
      have x7 := x7.same w2
      have x8 := x8.same w2
      have x9 := x9.same w2
      refine ⟨r1, p2, _, _, rfl, rfl, w2 _ _ m, upd_same, (by show 9 + 1 ≤ sizeLine; decide), fun r2 nr2 => ?_⟩
      have z2 := same_upd (o := .lst (([.ref a0, .ref a1, .ref a2, .ref a3, .ref a4] ++ [.ref a5, .ref a6, .ref a7, .ref a8]) ++ [.ref a9])) nr2
      have uf := u
      have u := u.trans z2
      have x0 := x0.same z2
      have x1 := x1.same z2
      have x2 := x2.same z2
      have x3 := x3.same z2
      have x4 := x4.same z2
      have x5 := x5.same z2
      have x6 := x6.same z2
      have x7 := x7.same z2
      have x8 := x8.same z2
      have x9 := x9.same z2
      refine q r2 [a0, a1, a2, a3, a4, a5, a6, a7, a8, a9] _ (uf.free nr2) u upd_same ⟨rfl, fun i a D h1 h2 => ?_⟩
      match i, h1, h2 with
      | 0, h1, h2 => cases h1; cases h2; exact x0
      | 1, h1, h2 => cases h1; cases h2; exact x1
      | 2, h1, h2 => cases h1; cases h2; exact x2
      | 3, h1, h2 => cases h1; cases h2; exact x3
      | 4, h1, h2 => cases h1; cases h2; exact x4
      | 5, h1, h2 => cases h1; cases h2; exact x5
      | 6, h1, h2 => cases h1; cases h2; exact x6
      | 7, h1, h2 => cases h1; cases h2; exact x7
      | 8, h1, h2 => cases h1; cases h2; exact x8
      | 9, h1, h2 => cases h1; cases h2; exact x9
      | n + 10, h1, h2 => simp at h1
end

/-! ### data that repr and == are asked of -/
structure Sm (d : PyData) (dp wt : Nat) : Prop where
  sh : d.showable = true
  nd : d.hasDict = false
  dp : d.depth ≤ dp
  ls : d.leavesShort 2000 = true
  wt : d.weight ≤ wt
  cl : d.canLay0 = true
structure SmA (ds : List PyData) (dp wt : Nat) : Prop where
  sh : PyData.showableAll ds = true
  nd : PyData.hasDictAll ds = false
  dp : PyData.depthAll ds ≤ dp
  ls : PyData.leavesShortAll 2000 ds = true
  wt : PyData.weightAll ds ≤ wt
  cl : PyData.canLayAll0 ds = true
theorem log_small {n : Int} {b : Nat} (h : n.natAbs < 2 ^ b) (hb : 0 < b) : n.natAbs.log2 < b := PySem.Flt.log2_lt_of hb h
theorem int_short {n : Int} (h : n.natAbs < 2 ^ 200) : PyData.leavesShort 2000 (.int n) = true := by
  have h1 := log_small h (by decide)
  simp only [PyData.leavesShort, PyData.shown]
  apply decide_eq_true
  have := int_text_length_le (a := n) (k := 200) (by decide) h1
  show (Str.ofString (toString n)).length ≤ 2000
  rw [PySem.ofString_length]
  omega
theorem Sm.int {n : Int} (h : n.natAbs < 2 ^ 200) : Sm (.int n) 0 200 := by
  have l := log_small h (by decide)
  refine ⟨?_, by simp [PyData.hasDict], by simp [PyData.depth], int_short h, ?_, by simp [PyData.canLay0]⟩
  · simp only [PyData.showable]
    exact decide_eq_true (by omega)
  · simp only [PyData.weight]
    split <;> omega
theorem Sm.bool (b : Bool) : Sm (.bool b) 0 0 := by
  refine ⟨by simp [PyData.showable], by simp [PyData.hasDict], by simp [PyData.depth], ?_, by simp [PyData.weight], by simp [PyData.canLay0]⟩
  cases b <;> decide +kernel
theorem Sm.str {x : Str} (h : PyData.strOk x = true) {m : Nat} (hm : x.length ≤ m) : Sm (.str x) 0 m :=
  ⟨by simp [PyData.showable], by simp [PyData.hasDict], by simp [PyData.depth], short_str h, by simp only [PyData.weight]; exact hm, by simp only [PyData.canLay0]; exact h⟩
theorem SmA.nil : SmA [] 0 0 := ⟨by simp [PyData.showableAll], by simp [PyData.hasDictAll], by simp [PyData.depthAll], by simp [PyData.leavesShortAll], by simp [PyData.weightAll], by simp [PyData.canLayAll0]⟩
theorem SmA.cons {d : PyData} {ds : List PyData} {dp wt w2 : Nat} (h : Sm d dp wt) (hs : SmA ds dp w2) : SmA (d :: ds) dp (wt + 1 + w2) := by
  obtain ⟨a1, a2, a3, a4, a5, a6⟩ := h
  obtain ⟨b1, b2, b3, b4, b5, b6⟩ := hs
  refine ⟨?_, ?_, ?_, ?_, ?_, ?_⟩
  · simp only [PyData.showableAll, a1, b1, Bool.and_self]
  · simp only [PyData.hasDictAll, a2, b2, Bool.or_self]
  · simp only [PyData.depthAll]
    omega
  · simp only [PyData.leavesShortAll, a4, b4, Bool.and_self]
  · simp only [PyData.weightAll]
    omega
  · simp only [PyData.canLayAll0, a6, b6, Bool.and_self]
theorem SmA.mono {ds : List PyData} {dp wt dp' wt' : Nat} (h : SmA ds dp wt) (h1 : dp ≤ dp') (h2 : wt ≤ wt') : SmA ds dp' wt' := ⟨h.sh, h.nd, Nat.le_trans h.dp h1, h.ls, Nat.le_trans h.wt h2, h.cl⟩
theorem Sm.mono {d : PyData} {dp wt dp' wt' : Nat} (h : Sm d dp wt) (h1 : dp ≤ dp') (h2 : wt ≤ wt') : Sm d dp' wt' := ⟨h.sh, h.nd, Nat.le_trans h.dp h1, h.ls, Nat.le_trans h.wt h2, h.cl⟩
theorem Sm.list {ds : List PyData} {dp wt : Nat} (h : SmA ds dp wt) : Sm (.list ds) (dp + 1) wt := by
  obtain ⟨b1, b2, b3, b4, b5, b6⟩ := h
  refine ⟨by simp only [PyData.showable, b1], by simp only [PyData.hasDict, b2], ?_, by simp only [PyData.leavesShort, b4], by simp only [PyData.weight]; exact b5, by simp only [PyData.canLay0, b6]⟩
  simp only [PyData.depth]
  omega
theorem SmA.all {ds : List PyData} {dp wt : Nat} (h : ∀ d ∈ ds, Sm d dp wt) : SmA ds dp ((wt + 1) * ds.length) := by
  induction ds with
  | nil => exact SmA.nil.mono (Nat.zero_le _) (Nat.zero_le _)
  | cons d ds ih =>
    refine (SmA.cons (h d List.mem_cons_self) (ih fun x hx => h x (List.mem_cons_of_mem _ hx))).mono (Nat.le_refl _) ?_
    rw [List.length_cons, Nat.mul_add]
    omega
theorem Sm.two {d : PyData} {dp wt : Nat} (h : Sm d dp wt) : Sm (.list [d, d]) (dp + 1) (2 * wt + 2) :=
  (Sm.list (SmA.cons h (SmA.cons h (SmA.nil.mono (Nat.zero_le dp) (Nat.le_refl 0))))).mono (Nat.le_refl _) (by omega)
/-- what repr asks of its argument -/
theorem Sm.repr {K : PySem.W.Frag} {H : Hp} {a : Addr} {d : PyData} {dp wt : Nat} (h : Sm d dp wt) (hd : dp ≤ 60) (hw : wt ≤ 8000) (hD : Dp K H (.ref a) d) : Dp K H (.ref a) d ∧ d.showable = true ∧ d.hasDict = false ∧ d.depth ≤ 60 ∧ d.shown.length ≤ sizeLine :=
  ⟨hD, h.sh, h.nd, Nat.le_trans h.dp hd, fits2 h.ls (Nat.le_trans h.wt hw)⟩
theorem Sm.shaped {d : PyData} {dp wt : Nat} (h : Sm d dp wt) (hd : dp ≤ 60) : SeqAt.shaped d = true := by
  unfold SeqAt.shaped
  rw [h.cl, decide_eq_true (show d.depth ≤ 64 from Nat.le_trans h.dp (by omega))]
  rfl

end WH
namespace WH
open PySem PySem.Spec PyProof.Rows L2
theorem PoolAt.but {p T : Addr} {H H' : Hp} {n : Int} (h : PoolAt H p n) (hn : p ≠ T) (s : SameBut T H H') : PoolAt H' p n := by
  obtain ⟨p0, p1, p2, e, r⟩ := h
  exact ⟨p0, p1, p2, s _ _ hn e, r⟩
theorem PoolAt.ne {H : Hp} {p q : Addr} {n : Int} (h : PoolAt H p n) (hq : H q = none) : p ≠ q := by
  obtain ⟨_, _, _, e, _⟩ := h
  exact ne_of_none e hq
structure BuX (mg : Str → Option Value) : Prop extends Bu mg where
  repr : mg "repr" = none
  enumerate : mg "enumerate" = none
theorem dpAll_bools {K : PySem.W.Frag} {H : Hp} (f : Nat → Bool) : ∀ l : List Nat, DpAll K H (l.map fun j => V.bl (f j)) (l.map fun j => PyData.bool (f j))
  | [] => .nil
  | _ :: r => .cons (.bl _) (dpAll_bools f r)
theorem dp_bools {K : PySem.W.Frag} {H : Hp} {a : Addr} {f : Nat → Bool} {n : Nat} (h : H a = some (.lst ((List.range n).map fun j => V.bl (f j)))) : Dp K H (.ref a) (.list ((List.range n).map fun j => PyData.bool (f j))) := .lst (SqL.of h) (dpAll_bools f _)
theorem sm_bools {f : Nat → Bool} {n : Nat} : Sm (.list ((List.range n).map fun j => PyData.bool (f j))) 1 ((0 + 1) * ((List.range n).map fun j => PyData.bool (f j)).length) :=
  Sm.list (SmA.all (dp := 0) (wt := 0) fun d hd => by
    obtain ⟨j, _, rfl⟩ := List.mem_map.mp hd
    exact Sm.bool _)
theorem sh_bools {f : Nat → Bool} {n : Nat} : SeqAt.shaped (.list ((List.range n).map fun j => PyData.bool (f j))) = true :=
  sm_bools.shaped (by decide)
theorem exo_lst {e C : Addr} {d : Option Addr} {xs : List V} : exo e C d ≠ .lst xs := fun z => by
  have z' : HO.ext _ = HO.lst xs := z
  cases z'
theorem exd_lst {e : Addr} {fs : List (Str × V)} {xs : List V} : exd e fs ≠ .lst xs := fun z => by
  have z' : HO.ext _ = HO.lst xs := z
  cases z'
theorem ExV.put {H : Hp} {a D l : Addr} {fs : List (Str × V)} {xs ys : List V} (h : ExV H a D fs) (hl : H l = some (.lst xs)) : ExV (upd H l (.lst ys)) a D fs := by
  obtain ⟨dx, h1, h2⟩ := h
  have n1 : a ≠ l := at_ne hl h1 (fun e => exo_lst e.symm)
  have n2 : dx ≠ l := at_ne hl h2 (fun e => exd_lst e.symm)
  exact ⟨dx, by rw [upd_ne n1]; exact h1, by rw [upd_ne n2]; exact h2⟩
theorem refs_at {as : List Addr} {k : Nat} {y : V} (h : (as.map V.ref)[k]? = some y) : ∃ a, as[k]? = some a ∧ y = .ref a := by
  rw [List.getElem?_map] at h
  cases e : as[k]? with
  | none =>
    rw [e] at h
    cases h
  | some x =>
    rw [e] at h
    exact ⟨x, rfl, (Option.some.inj h).symm⟩
section
variable {P : Program} {w : World} {K : PySem.W.Frag} {mg : Str → Option Value} {base : Heap}
/-- which of the nine the i-th of the ten is -/
def isAt (i : Nat) : Nat → Bool := fun j => decide (j = i)
theorem scFits : FnScope ["pool", "things", "thing", "is_named", "at", "e", "fresh", "found", "spot"] ["pool"] (defScope sFits) := ⟨rfl, rfl, rfl, by decide +kernel, rfl, by decide +kernel, by decide +kernel⟩
def spFits : Sp := fun vs H Q _ => ∃ (p : Addr) (n : Int), vs = [.ref p] ∧ PoolAt H p n ∧ n < 700000 ∧ ∀ H', SameBut p H H' → Q (.bl true) H'
theorem ok_fits {f c0 c1 c2 c3 c4 c5 c6 c7 c8 cE fI fD fA fF : Addr} {fd fdD fdA fdF : FuncData} (F : Fun K "_law_fits" "_law_fits" sFits f fd) (B : BuX mg) (T : Ten K mg c0 c1 c2 c3 c4 c5 c6 c7 c8 cE fI) (mi : mg "isinstance" = none)
    (O : ∀ (i : Nat) (D : Addr), [c0, c1, c2, c3, c4, c5, c6, c7, c8, cE][i]? = some D → One K c0 c1 c2 c3 c4 c5 c6 c7 c8 cE D (isAt i))
    (D : Cal P w K mg base 1 "_law_draw" ["pool", "span"] spDraw fD fdD) (AL : Cal P w K mg base 3 "_law_all" ["thing", "is_named"] (spAll c0 c1 c2 c3 c4 c5 c6 c7 c8 cE) fA fdA) (FG : Cal P w K mg base 1 "_law_flags" ["e"] (spFlags K c0 c1 c2 c3 c4 c5 c6 c7 c8 cE) fF fdF) :
    FnG P w K mg base CX0 4 f fd ["pool"] spFits := by
  refine WH.Fun.okG F scFits (fun vs H Q E h => ?_) (fun cdv A outer s H vs Q E hr hG h => ?_)
  · obtain ⟨p, n, rfl, _⟩ := h
    rfl
  · obtain ⟨p, n, rfl, hp, hn, q⟩ := h
    have hr1 : Room 1 _ := hr.mono (by decide)
    have hr3 : Room 3 _ := hr
    refine ⟨_, (pss_cons (ps_set (i := 1) scFits.nd rfl (Or.inl rfl) (pe_lst (pa_cons (pe_call D.G hr1 (by rfl) D.g D.k D.b .nil pass0 (pa_cons (pv 0) (pa_cons (pe_op op_pow pe_int pe_int) pa_nil))) (pa_cons pe_str (pa_cons (pe_lst (pa_cons pe_int (pa_cons (pe_lst (pa_cons pe_int pa_nil)) pa_nil))) (pa_cons (pe_tup (pa_cons pe_str (pa_cons pe_str pa_nil))) (pa_cons pe_non (pa_cons pe_str (pa_cons pe_int (pa_cons pe_bl (pa_cons (pe_un un_neg pe_int) (pa_cons (pe_disp (pps_cons pe_str pe_int pps_nil) (by rfl) (by rfl) (fun z => by cases z) (by decide)) pa_nil))))))))))))
      (pss_cons (ps_for PassesOwn.never rfl (pi_list (pv 1)) (pg_name (i := 2) scFits.nd rfl (Or.inl rfl)) (pss_one (ps_for PassesOwn.never rfl (pi_tup (pe_tup (pa_cons pe_bl (pa_cons pe_bl pa_nil)))) (pg_name (i := 3) scFits.nd rfl (Or.inl rfl)) (pss_one (ps_for PassesOwn.never rfl (pi_enum (by rfl) B.enumerate (pa_cons (pe_call AL.G hr3 (by rfl) AL.g AL.k AL.b .nil pass0 (pa_cons (pv 2) (pa_cons (pv 3) pa_nil))) pa_nil)) (pg_tup rfl (pgs_cons (pg_name (i := 4) scFits.nd rfl (Or.inr rfl)) (pgs_cons (pg_name (i := 5) scFits.nd rfl (Or.inl rfl)) pgs_nil))) (pss_cons (ps_if (PW.pt (pw_or (pt_cmpR op_ne (pe_callB (call_show hG hr.units) (by rfl) B.repr (by decide +kernel) (pa_cons (pe_xv (K := K) rfl (pv 5)) pa_nil)) (pe_callB (call_show hG hr.units) (by rfl) B.repr (by decide +kernel) (pa_cons (pv 2) pa_nil)) (nomark _)) (pw_or (pt_not (pt_val (pe_callB call_isV (by rfl) mi (by decide +kernel) (pa_cons (pv 5) (pa_cons (pe_bltn (v := .ty "ValueError") (by rfl) T.gV (by decide +kernel) rfl) pa_nil))))) (pw_or1 (pt_not (pt_val (pe_callB call_isV (by rfl) mi (by decide +kernel) (pa_cons (pv 5) (pa_cons (pe_glob (v := .ref cE) rfl T.ecE.g rfl) pa_nil))))))))) (pss_one (ps_ret pe_bl)) pss_nil)
      (pss_one (ps_if (pt_cmpR (op_neD hr.units) (pe_call FG.G hr1 (by rfl) FG.g FG.k FG.b .nil pass0 (pa_cons (pv 5) pa_nil)) (pe_lc (own := [("spot", 8)]) (g := gName 8) (tt := tYes) rfl scFits.nd (pi_range1 (by rfl) B.range (pa_cons pe_int pa_nil)) (blkOk_by (N := ["pool", "things", "thing", "is_named", "at", "e", "fresh", "found", "spot"]) (sc := defScope sFits) (by decide +kernel)) (fun _ _ _ _ _ => pg_name (i := 8) scFits.nd rfl (Or.inl rfl)) (fun _ _ _ _ _ => pts_nil) (fun _ _ _ _ _ => (pe_cmpR op_eq (pv 8) (pv 4) (nomark _)))) (nomark _)) (pss_one (ps_ret pe_bl)) pss_nil))))))))
      (pss_cons (ps_set (i := 6) scFits.nd rfl (Or.inr rfl) (pe_lst (pa_cons (pe_call D.G hr1 (by rfl) D.g D.k D.b .nil pass0 (pa_cons (pv 0) (pa_cons pe_int pa_nil))) pa_nil)))
      (pss_cons (ps_set (i := 7) scFits.nd rfl (Or.inl rfl) (pe_op op_cat (pe_call AL.G hr3 (by rfl) AL.g AL.k AL.b .nil pass0 (pa_cons (pv 6) (pa_cons pe_bl pa_nil))) (pe_call AL.G hr3 (by rfl) AL.g AL.k AL.b .nil pass0 (pa_cons (pv 6) (pa_cons pe_bl pa_nil)))))
      (pss_cons (ps_expr (pe_bm PySem.F.plainAttrs_list PySem.F.slot_list_append PySem.F.type_list_append mt_append (pv 6) (pa_cons pe_str pa_nil)))
      (pss_one (ps_ret (pe_cmpR (op_eqD hr.units) (pe_lc (own := [("e", 5)]) (g := gName 5) rfl scFits.nd (pi_list (pv 7)) (blkOk_by (N := ["pool", "things", "thing", "is_named", "at", "e", "fresh", "found", "spot"]) (sc := defScope sFits) (by decide +kernel)) (fun _ _ _ _ _ => pg_name (i := 5) scFits.nd rfl (Or.inl rfl)) (fun _ _ _ _ _ => (pts_one (pt_cmpR (show OpR _ _ (rNeD K) from op_neD hr.units) (pe_xv (K := K) rfl (pv 5)) (pv 6) (nomark _)))) (fun _ _ _ _ _ => pe_int)) (pe_lst pa_nil) (nomark _))))))))), ?_⟩
    refine ⟨_, rfl, _, _, rfl, rfl, ⟨by decide, by decide, by decide⟩, p, _, n, rfl, hp, by omega, by decide +kernel, by decide +kernel, fun r H1 r0 r1 hp1 b1 => ?_⟩
    refine ⟨(by show 1 ≤ sizeLine; decide), fun l1 n1 => ?_⟩
    have s1 := same_upd (o := .lst [.int 2]) n1
    refine ⟨(by show 2 ≤ sizeLine; decide), fun l2 n2 => ?_⟩
    have s2 := same_upd (o := .lst [.int 1, .ref l1]) n2
    refine ⟨(by show 2 ≤ sizeLine; decide), fun t2 n3 => ?_⟩
    have s3 := same_upd (o := .tup [.str "a", .str "b"]) n3
    refine ⟨_, rfl, fun d nd => ?_⟩
    refine ⟨upd_same, [(.inr "a", .int 0)], rfl, by decide, (by show 10 ≤ sizeLine; decide), fun T nT => ?_⟩
    have s4 := same_upd (o := .dK []) nd
    have s5 : Same (upd (upd (upd H1 l1 (.lst [.int 2])) l2 (.lst [.int 1, .ref l1])) t2 (.tup [.str "a", .str "b"])) (upd (upd (upd (upd (upd H1 l1 (.lst [.int 2])) l2 (.lst [.int 1, .ref l1])) t2 (.tup [.str "a", .str "b"])) d (.dK [])) d (.dK (mergeK [] [(.inr "a", .int 0)]))) := same_set s4 nd
    have s6 := same_upd (o := .lst [.int r, .str "ab", .ref l2, .ref t2, .non, .str "", .int 0, .bl true, .int (-5), .ref d]) nT
    have s56 := s5.trans s6
    have f1 := s56 _ _ (s3 _ _ (s2 _ _ (upd_same (H := H1) (a := l1) (o := .lst [.int 2]))))
    have f2 := s56 _ _ (s3 _ _ (upd_same (H := upd H1 l1 (.lst [.int 2])) (a := l2) (o := .lst [.int 1, .ref l1])))
    have f3 := s56 _ _ (upd_same (H := upd (upd H1 l1 (.lst [.int 2])) l2 (.lst [.int 1, .ref l1])) (a := t2) (o := .tup [.str "a", .str "b"]))
    have f4 := s6 _ _ (upd_same (H := upd (upd (upd (upd H1 l1 (.lst [.int 2])) l2 (.lst [.int 1, .ref l1])) t2 (.tup [.str "a", .str "b"])) d (.dK [])) (a := d) (o := .dK (mergeK [] [(.inr "a", .int 0)])))
    have f5 : (upd (upd (upd (upd (upd (upd H1 l1 (.lst [.int 2])) l2 (.lst [.int 1, .ref l1])) t2 (.tup [.str "a", .str "b"])) d (.dK [])) d (.dK (mergeK [] [(.inr "a", .int 0)]))) T (.lst [.int r, .str "ab", .ref l2, .ref t2, .non, .str "", .int 0, .bl true, .int (-5), .ref d])) T = some (.lst [.int r, .str "ab", .ref l2, .ref t2, .non, .str "", .int 0, .bl true, .int (-5), .ref d]) := upd_same
    have s12 := ((s1.trans s2).trans s3).trans s56
    have hp2 := hp1.same s12
    have bb2 : SameBut p H _ := b1.trans (Same.but s12)
    generalize (upd (upd (upd (upd (upd (upd H1 l1 (.lst [.int 2])) l2 (.lst [.int 1, .ref l1])) t2 (.tup [.str "a", .str "b"])) d (.dK [])) d (.dK (mergeK [] [(.inr "a", .int 0)]))) T (.lst [.int r, .str "ab", .ref l2, .ref t2, .non, .str "", .int 0, .bl true, .int (-5), .ref d])) = H2 at f1 f2 f3 f4 f5 hp2 s12 bb2 ⊢
    have r40 : (10 : Int) ^ (40 : Int).toNat = 10000000000000000000000000000000000000000 := by decide +kernel
    rw [r40] at r1
    have shw : ∀ x ∈ ([.int r, .str "ab", .ref l2, .ref t2, .non, .str "", .int 0, .bl true, .int (-5), .ref d] : List V), ∃ z, ∀ H', Same H2 H' → Shw K H' x z := by
      intro x hx
      simp only [List.mem_cons, List.not_mem_nil, or_false] at hx
      rcases hx with rfl | rfl | rfl | rfl | rfl | rfl | rfl | rfl | rfl | rfl
      · refine ⟨_, fun _ _ => .int r (Nat.lt_of_lt_of_le (log_small (b := 200) ?_ (by decide)) (by decide))⟩
        have e : (2 : Nat) ^ 200 = 1606938044258990275541962092341162602522202993782792835301376 := by decide +kernel
        rw [e]
        omega
      · exact ⟨_, fun _ _ => .str "ab" (by decide +kernel)⟩
      · exact ⟨_, fun H' s => .data l2 (.list [.int 1, .list [.int 2]]) (.lst (SqL.of (s _ _ f2)) (.cons (.int 1) (.cons (.lst (SqL.of (s _ _ f1)) (.cons (.int 2) .nil)) .nil))) (by decide +kernel) (by decide +kernel) (by decide +kernel) (by decide +kernel)⟩
      · exact ⟨_, fun H' s => .data t2 (.tuple [.str "a", .str "b"]) (.tup (SqT.of (s _ _ f3)) (.cons (.str _) (.cons (.str _) .nil))) (by decide +kernel) (by decide +kernel) (by decide +kernel) (by decide +kernel)⟩
      · exact ⟨_, fun _ _ => .non⟩
      · exact ⟨_, fun _ _ => .str "" (by decide +kernel)⟩
      · exact ⟨_, fun _ _ => .int 0 (by decide +kernel)⟩
      · exact ⟨_, fun _ _ => .bl true⟩
      · exact ⟨_, fun _ _ => .int (-5) (by decide +kernel)⟩
      · exact ⟨_, fun H' s => .dict d "a" 0 (s _ _ f4) (by decide +kernel) (by decide +kernel)⟩
    with_reducible show gName _ _ _ _ (tSeq _ _ _)
    refine seq_midN (fun σ H' => ∃ v2 v3 v4 v5 : Option V, σ = [some (.ref p), some (.ref T), v2, v3, v4, v5, none, none, none] ∧ Same H2 H') ?_ ?_
    · intro N hN
      refine ⟨_, rfl, T, rfl, ⟨_, SqL.of f5⟩, for_list (K := K) (a := T) (xs := [.int r, .str "ab", .ref l2, .ref t2, .non, .str "", .int 0, .bl true, .int (-5), .ref d])
        (fun i σ H' => ∃ v2 v3 v4 v5 : Option V, σ = [some (.ref p), some (.ref T), v2, v3, v4, v5, none, none, none] ∧ Same H2 H')
        ⟨none, none, none, none, rfl, Same.refl _⟩ (fun i σ H' _ ⟨_, _, _, _, _, s'⟩ => SqL.of (s' _ _ f5)) ?_ ?_⟩
      · rintro i x σ H3 hx ⟨v2, v3, v4, v5, rfl, s3⟩
        obtain ⟨z, hz⟩ := shw x (List.mem_of_getElem? hx)
        refine ⟨(by show 2 ≤ sizeLine; decide), fun tq ntq => ⟨tq, rfl, ⟨_, SqT.of upd_same⟩, ?_⟩⟩
        have stq := same_upd (o := .tup [.bl false, .bl true]) ntq
        refine for_it (walk_tup (K := K) (a := tq) (xs := [.bl false, .bl true])) (fun j σ H' => ∃ v3 v4 v5 : Option V, σ = [some (.ref p), some (.ref T), some x, v3, v4, v5, none, none, none] ∧ Same (upd H3 tq (.tup [.bl false, .bl true])) H')
          ⟨v3, v4, v5, rfl, Same.refl _⟩ (fun j σ H' _ ⟨_, _, _, _, s'⟩ => SqT.of (s' _ _ upd_same)) ?_ ?_
        · rintro j y σ H4 H5 hj ⟨v3, v4, v5, rfl, s4⟩ ⟨rfl, hy⟩
          have hj2 : j < 2 := hj
          obtain ⟨nd, rfl⟩ : ∃ nd, y = .bl nd := by
            match j, hy, hj2 with
            | 0, h, _ => exact ⟨false, (Option.some.inj h).symm⟩
            | 1, h, _ => exact ⟨true, (Option.some.inj h).symm⟩
          refine ⟨_, rfl, _, rfl, x, nd, rfl, fun l as H6 nl s6 h6 v10 => ⟨l, _, rfl, SqL.of h6, ?_⟩⟩
          have s26 : Same H2 H6 := ((s3.trans stq).trans s4).trans s6
          refine for_it walk_enum (fun k σ H' => ∃ v4 v5 : Option V, σ = [some (.ref p), some (.ref T), some x, some (.bl nd), v4, v5, none, none, none] ∧ Same H6 H')
            ⟨v4, v5, rfl, Same.refl _⟩ (fun k σ H' _ ⟨_, _, _, s'⟩ => SqL.of (s' _ _ h6)) ?_ ?_
          · rintro k w' σ H7 H8 hk ⟨v4, v5, rfl, s7⟩ ⟨U, x', y', rfl, hU, rfl, hx', hy'⟩
            obtain rfl : V.int (k : Nat) = x' := Option.some.inj hx'
            obtain ⟨a, ha, rfl⟩ := refs_at hy'
            have hk10 : k < 10 := by
              have := (List.getElem?_eq_some_iff.mp ha).1
              rw [v10.1] at this
              exact this
            obtain ⟨D', hD⟩ : ∃ D', ([c0, c1, c2, c3, c4, c5, c6, c7, c8, cE] : List Addr)[k]? = some D' := ⟨_, List.getElem?_eq_getElem (by exact hk10)⟩
            have O1 := O k D' hD
            refine ⟨U, _, rfl, SqT.of upd_same, rfl, _, _, rfl, ?_⟩
            refine ⟨_, _, rfl, rfl, ?_⟩
            have sU := same_upd (o := .tup [V.int (k : Nat), V.ref a]) hU
            have s68 := s7.trans sU
            have xv := (v10.2 k a D' ha hD).same s68
            generalize upd H7 U (.tup [V.int (k : Nat), V.ref a]) = H8 at sU s68 xv ⊢
            have hz8 := hz H8 (s26.trans s68)
            refine ⟨_, rfl, a, D', _, x, rfl, xv, O1.xf, O1.nv, by simp [List.lookup], x, z, rfl, hz8, ?_⟩
            refine ⟨_, rfl, x, z, rfl, hz8, rfl, _, rfl, ?_⟩
            rw [decide_eq_true rfl]
            refine iteF ?_
            refine ⟨_, rfl, a, D', _, .ty "ValueError", _, true, rfl, xv, O1.ex, .ty "ValueError", O1.kV, true, rfl, iteF ?_⟩
            refine ⟨_, rfl, a, D', _, .ref cE, _, true, rfl, xv, O1.ex, .own cE, O1.kE, true, rfl, iteF ?_⟩
            refine ⟨_, rfl, a, D', _, isAt k, rfl, xv, O1, fun l9 H9 nl9 s9 h9 => ?_⟩
            refine ⟨_, rfl, by decide, by decide, fun D0 hD0 => ?_⟩
            refine lc_fm walk_range (fun j => some (.bl (decide (V.int (0 + (j : Nat)) = V.int (k : Nat))))) (by decide) hD0 (fun _ _ => trivial) ?_ ?_
            · rintro j w2 Ha Hb N2 hj sa ⟨rfl, rfl⟩ hN2
              exact ⟨rfl, yesT ⟨_, rfl, _, rfl, rfl, hN2 _ (Same.refl _)⟩⟩
            intro H10 s10 h10
            rw [fmr_map] at h10
            have ef : (fun j : Nat => V.bl (decide (V.int (0 + (j : Nat)) = V.int (k : Nat)))) = fun j => V.bl (isAt k j) := funext fun j => by
              unfold isAt
              by_cases c : j = k
              · rw [decide_eq_true c, decide_eq_true (by rw [c]; simp)]
              · rw [decide_eq_false c, decide_eq_false (fun h => c (by have := V.int.inj h; omega))]
            rw [ef] at h10
            refine ⟨_, _, dp_bools (f := isAt k) (n := 9) (s10 _ _ h9), dp_bools (f := isAt k) (n := 9) h10, sh_bools (f := isAt k) (n := 9), sh_bools (f := isAt k) (n := 9), _, rfl, ?_⟩
            rw [SeqAt.eqv_refl _ (sm_bools (f := isAt k) (n := 9)).cl]
            exact iteF ⟨_, _, rfl, (s68.trans s9).trans s10⟩
          · rintro σ H7 ⟨v4, v5, rfl, s7⟩
            exact ⟨_, _, _, rfl, (s4.trans s6).trans s7⟩
        · rintro σ H4 ⟨v3, v4, v5, rfl, s4⟩
          exact ⟨_, _, _, _, rfl, (s3.trans stq).trans s4⟩
      · rintro σ H3 ⟨v2, v3, v4, v5, rfl, s3⟩
        exact hN _ _ ⟨v2, v3, v4, v5, rfl, s3⟩
    rintro σ H3 ⟨v2, v3, v4, v5, rfl, s23⟩
    -- what is stored is the thing itself
    have hp3 := hp2.same s23
    refine ⟨_, rfl, p, _, _, rfl, hp3, by omega, by decide, by decide, fun r9 H4 r90 r99 hp4 b4 => ?_⟩
    refine ⟨(by show 1 ≤ sizeLine; decide), fun fr nfr => ?_⟩
    have hfr : (upd H4 fr (.lst [.int r9])) fr = some (.lst [.int r9]) := upd_same
    have sfr := same_upd (o := .lst [.int r9]) nfr
    have bb4 : SameBut p H H4 := (bb2.trans (Same.but s23)).trans b4
    with_reducible show gName _ _ _ _ (tSeq _ _ _)
    generalize upd H4 fr (.lst [.int r9]) = H5 at hfr sfr ⊢
    refine ⟨_, rfl, .ref fr, false, rfl, fun l1 as1 H6 nl1 s6 h6 v1 => ?_⟩
    refine ⟨_, rfl, .ref fr, true, rfl, fun l2 as2 H7 nl2 s7 h7 v2 => ?_⟩
    refine ⟨l1, l2, _, _, rfl, rfl, s7 _ _ h6, h7, Nat.le_trans (show (as1.map V.ref).length + (as2.map V.ref).length ≤ 20 by rw [List.length_map, List.length_map, v1.1, v2.1]; decide) (by decide), fun fo nfo => ?_⟩
    have s8 := same_upd (o := .lst (as1.map V.ref ++ as2.map V.ref)) nfo
    have all : ∀ (k : Nat) (y : V), (as1.map V.ref ++ as2.map V.ref)[k]? = some y → ∃ a D' b, y = .ref a ∧ ExV (upd H7 fo (.lst (as1.map V.ref ++ as2.map V.ref))) a D' [(("value" : Str), .ref fr)] ∧ One K c0 c1 c2 c3 c4 c5 c6 c7 c8 cE D' b := by
      intro k y hk
      have look : ∀ (as : List Addr) (H' : Hp) (k : Nat), V10 (.ref fr) [c0, c1, c2, c3, c4, c5, c6, c7, c8, cE] as H' → (as.map V.ref)[k]? = some y → ∃ a D' b, y = .ref a ∧ ExV H' a D' [(("value" : Str), .ref fr)] ∧ One K c0 c1 c2 c3 c4 c5 c6 c7 c8 cE D' b := by
        intro as H' k v h
        obtain ⟨a, ha, rfl⟩ := refs_at h
        have hk10 : k < 10 := by
          have := (List.getElem?_eq_some_iff.mp ha).1
          rw [v.1] at this
          exact this
        obtain ⟨D', hD⟩ : ∃ D', ([c0, c1, c2, c3, c4, c5, c6, c7, c8, cE] : List Addr)[k]? = some D' := ⟨_, List.getElem?_eq_getElem (by exact hk10)⟩
        exact ⟨a, D', _, rfl, v.2 k a D' ha hD, O k D' hD⟩
      by_cases c : k < (as1.map V.ref).length
      · rw [List.getElem?_append_left c] at hk
        exact look as1 _ k ((v1.same s7).same s8) hk
      · rw [List.getElem?_append_right (by omega)] at hk
        exact look as2 _ _ (v2.same s8) hk
    have hfr8 := s8 _ _ (s7 _ _ (s6 _ _ hfr))
    have hfo : (upd H7 fo (.lst (as1.map V.ref ++ as2.map V.ref))) fo = some (.lst (as1.map V.ref ++ as2.map V.ref)) := upd_same
    have lfo : (as1.map V.ref ++ as2.map V.ref).length = 20 := by rw [List.length_append, List.length_map, List.length_map, v1.1, v2.1]
    have nff : fo ≠ fr := fun e => by
      have h := s7 _ _ (s6 _ _ hfr)
      rw [← e, nfo] at h
      cases h
    generalize (as1.map V.ref ++ as2.map V.ref) = xs at all hfr8 hfo lfo s8 ⊢
    with_reducible show gName _ _ _ _ (tSeq _ _ _)
    generalize upd H7 fo (.lst xs) = H8 at all hfr8 hfo s8 ⊢
    refine ⟨_, rfl, .inl ⟨rfl, _, SqL.of hfr8⟩, fr, _, _, rfl, rfl, hfr8, (by show 1 < sizeLine; decide), ?_⟩
    have all9 : ∀ (k : Nat) (y : V), xs[k]? = some y → ∃ a D' b, y = .ref a ∧ ExV (upd H8 fr (.lst ([.int r9] ++ [.str "q"]))) a D' [(("value" : Str), .ref fr)] ∧ One K c0 c1 c2 c3 c4 c5 c6 c7 c8 cE D' b := fun k y h => by
      obtain ⟨a, D', b, h1, h2, h3⟩ := all k y h
      exact ⟨a, D', b, h1, h2.put hfr8, h3⟩
    have hfo9 : (upd H8 fr (.lst ([.int r9] ++ [.str "q"]))) fo = some (.lst xs) := by
      rw [upd_ne nff]
      exact hfo
    have bb9 : SameBut p H (upd H8 fr (.lst ([.int r9] ++ [.str "q"]))) := fun b o nb hb => by
      have h4 := bb4 _ _ nb hb
      rw [upd_ne (ne_of_none h4 nfr)]
      exact s8 _ _ (s7 _ _ (s6 _ _ (sfr _ _ h4)))
    have hfr9 : (upd H8 fr (.lst ([.int r9] ++ [.str "q"]))) fr = some (.lst [.int r9, .str "q"]) := upd_same
    generalize upd H8 fr (.lst ([.int r9] ++ [.str "q"])) = H9 at all9 hfo9 hfr9 bb9 ⊢
    refine ⟨_, rfl, fo, rfl, ⟨_, SqL.of hfo9⟩, fun D0 hD0 => ?_⟩
    have e9 : (9 : Nat) < 2 ^ 200 := by decide +kernel
    have sm9 : Sm (.list [.int r9, .str "q"]) 1 (200 + 1 + (1 + 1 + 0)) := Sm.list (SmA.cons (Sm.int (by omega)) (SmA.cons ((Sm.str (by decide +kernel) (m := 1) (by decide)).mono (by decide) (by decide)) SmA.nil))
    refine lc_fm walk_list (fun _ => none) ?_ hD0 (fun H' s' => SqL.of (s' _ _ hfo9)) ?_ ?_
    · rw [lfo]
      decide
    · rintro k y Ha Hb N hk sa ⟨rfl, hy⟩ hN
      obtain ⟨a, D', b, rfl, xv, O1⟩ := all9 k y hy
      refine ⟨rfl, _, rfl, a, D', _, .ref fr, rfl, xv.same sa, O1.xf, O1.nv, by simp [List.lookup], _, rfl, ?_⟩
      have dpf : Dp K Hb (.ref fr) (.list [.int r9, .str "q"]) := .lst (SqL.of (sa _ _ hfr9)) (.cons (.int _) (.cons (.str _) .nil))
      refine ⟨_, _, dpf, dpf, sm9.shaped (by decide), sm9.shaped (by decide), _, rfl, ?_⟩
      rw [SeqAt.eqv_refl _ sm9.cl]
      exact iteF (hN _ (Same.refl _))
    · intro H10 s10 h10
      have e0 : fmr (fun _ => none) xs.length = [] := by
        unfold fmr
        simp
      rw [e0] at h10
      refine ⟨(by show 0 ≤ sizeLine; decide), fun e1 ne1 => ?_⟩
      have se := same_upd (o := .lst []) ne1
      refine ⟨_, _, .lst (SqL.of (se _ _ h10)) .nil, .lst (SqL.of upd_same) .nil, by decide +kernel, by decide +kernel, ?_⟩
      rw [SeqAt.eqv_refl _ (by decide +kernel)]
      exact q _ (bb9.trans (Same.but (s10.trans se)))
end
end WH
namespace WH
open PySem PySem.Spec PyProof.Rows L2
section
variable {P : Program} {w : World} {K : PySem.W.Frag} {mg : Str → Option Value} {base : Heap}
theorem scLaw : FnScope ["script", "spot", "pool"] ["script"] (defScope sLaw) := ⟨rfl, rfl, rfl, by decide +kernel, rfl, by decide +kernel, by decide +kernel⟩
def spLaw (K : PySem.W.Frag) : Sp := fun vs H Q _ => ∃ (a : Addr) (ns : List Int), vs = [.ref a] ∧ SqL K H a (ns.map V.int) ∧ ns.length ≤ 63 ∧ ∀ H', Q (.bl true) H'
theorem ok_law {f fP fF : Addr} {fd fdP fdF : FuncData} (F : Fun K "law" "law" sLaw f fd) (B : Bu mg) (PL : Cal P w K mg base 1 "_law_pool" ["script", "spot"] (spPool K) fP fdP) (FT : FnG P w K mg base CX0 4 fF fdF ["pool"] spFits) (bF : Binds K fdF ["pool"] []) (kF : PySem.W.keepIn K (.ref fF) = true) (gF : mg "_law_fits" = some (.ref fF)) : FnG P w K mg base CX0 5 f fd ["script"] (spLaw K) := by
  refine WH.Fun.okG F scLaw (fun vs H Q E h => ?_) (fun cdv A outer s H vs Q E hr hG h => ?_)
  · obtain ⟨a, ns, rfl, _⟩ := h
    rfl
  · obtain ⟨a, ns, rfl, hS, hlen, q⟩ := h
    have hr1 : Room 1 _ := hr.mono (by decide)
    refine ⟨_, (pss_cons (ps_for PassesOwn.never rfl (pi_range1 (by rfl) B.range (pa_cons (pe_callB (call_max2 rfl) (by rfl) B.max (by decide +kernel) (pa_cons pe_int (pa_cons (pe_callB (call_min2 rfl) (by rfl) B.min (by decide +kernel) (pa_cons pe_int (pa_cons (pe_callB call_len_seq (by rfl) B.len PySem.boot_len (pa_cons (pv 0) pa_nil)) pa_nil))) pa_nil))) pa_nil)) (pg_name (i := 1) scLaw.nd rfl (Or.inl rfl)) (pss_cons (ps_set (i := 2) scLaw.nd rfl (Or.inl rfl) (pe_call PL.G hr1 (by rfl) PL.g PL.k PL.b .nil pass0 (pa_cons (pv 0) (pa_cons (pv 1) pa_nil))))
      (pss_one (ps_if (pt_not (pt_val (pe_callG FT hr hG (by rfl) gF kF bF pass0 (pa_cons (pv 2) pa_nil)))) (pss_one (ps_ret pe_bl)) pss_nil))))
      (pss_one (ps_ret pe_bl))), ?_⟩
    have jb : ∀ x : Int, 0 ≤ x → x ≤ 63 → 1 ≤ (if (if x < 4 then x else 4) > 1 then (if x < 4 then x else 4) else 1) ∧ (if (if x < 4 then x else 4) > 1 then (if x < 4 then x else 4) else 1) ≤ 4 := by
      intro x h0 h1
      split <;> split at * <;> omega
    obtain ⟨j1, j6⟩ := jb ((((ns.map V.int).length : Nat) : Int)) (by omega) (by rw [List.length_map]; omega)
    refine ⟨_, rfl, a, _, rfl, .inl hS, _, _, rfl, _, _, rfl, _, rfl, by omega, by omega, ?_⟩
    refine for_range (lo := 0) (fun i σ H2 => ∃ v1 v2 : Option V, σ = [some (.ref a), v1, v2] ∧ Same H H2) ⟨none, none, rfl, Same.refl _⟩ ?_ ?_
    · rintro i σ H2 hi ⟨v1, v2, rfl, s2⟩
      have hi6 : i < 4 := by omega
      refine ⟨_, rfl, _, rfl, a, ns, i, by simp, s2.seq hS, by omega, fun p H3 np s3 hp3 => ?_⟩
      have np0 : H p = none := s2.free np
      refine ⟨_, rfl, p, _, rfl, hp3, by omega, fun H4 b4 => ⟨_, rfl, iteF ?_⟩⟩
      exact ⟨_, _, rfl, fun b o e => b4 b o (ne_of_none e np0) ((s2.trans s3) b o e)⟩
    · rintro σ H2 ⟨v1, v2, rfl, s2⟩
      exact q H2
end
theorem all_mk {l : PySem.W.OpenLaw} {w : World} {K : PySem.W.Frag} {h : Heap} {mg : Str → Option Value} {fa f20 f26 f27 f15 f16 f10 f11 : Addr} {c0 c1 c2 c3 c4 c5 c6 c7 c8 cE : Addr} {nmc0 qnc0 : Str} {NAc0 : Addr} {bsc0 : List Value} {snc0 : List Str} {subc0 : List Value} {abc0 : Bool} {colc0 : Option Bool} {ddc0 : Option Addr} {r0c0 r1c0 r2c0 r3c0 r5c0 : Option Value} {nmc1 qnc1 : Str} {NAc1 : Addr} {bsc1 : List Value} {snc1 : List Str} {subc1 : List Value} {abc1 : Bool} {colc1 : Option Bool} {ddc1 : Option Addr} {r0c1 r1c1 r2c1 r3c1 r5c1 : Option Value} {nmc2 qnc2 : Str} {NAc2 : Addr} {bsc2 : List Value} {snc2 : List Str} {subc2 : List Value} {abc2 : Bool} {colc2 : Option Bool} {ddc2 : Option Addr} {r0c2 r1c2 r2c2 r3c2 r5c2 : Option Value} {nmc3 qnc3 : Str} {NAc3 : Addr} {bsc3 : List Value} {snc3 : List Str} {subc3 : List Value} {abc3 : Bool} {colc3 : Option Bool} {ddc3 : Option Addr} {r0c3 r1c3 r2c3 r3c3 r5c3 : Option Value} {nmc4 qnc4 : Str} {NAc4 : Addr} {bsc4 : List Value} {snc4 : List Str} {subc4 : List Value} {abc4 : Bool} {colc4 : Option Bool} {ddc4 : Option Addr} {r0c4 r1c4 r2c4 r3c4 r5c4 : Option Value} {nmc5 qnc5 : Str} {NAc5 : Addr} {bsc5 : List Value} {snc5 : List Str} {subc5 : List Value} {abc5 : Bool} {colc5 : Option Bool} {ddc5 : Option Addr} {r0c5 r1c5 r2c5 r3c5 r5c5 : Option Value} {nmc6 qnc6 : Str} {NAc6 : Addr} {bsc6 : List Value} {snc6 : List Str} {subc6 : List Value} {abc6 : Bool} {colc6 : Option Bool} {ddc6 : Option Addr} {r0c6 r1c6 r2c6 r3c6 r5c6 : Option Value} {nmc7 qnc7 : Str} {NAc7 : Addr} {bsc7 : List Value} {snc7 : List Str} {subc7 : List Value} {abc7 : Bool} {colc7 : Option Bool} {ddc7 : Option Addr} {r0c7 r1c7 r2c7 r3c7 r5c7 : Option Value} {nmc8 qnc8 : Str} {NAc8 : Addr} {bsc8 : List Value} {snc8 : List Str} {subc8 : List Value} {abc8 : Bool} {colc8 : Option Bool} {ddc8 : Option Addr} {r0c8 r1c8 r2c8 r3c8 r5c8 : Option Value} {nmcE qncE : Str} {NAcE : Addr} {bscE : List Value} {sncE : List Str} {subcE : List Value} {abcE : Bool} {colcE : Option Bool} {ddcE : Option Addr} {r0cE r1cE r2cE r3cE r5cE : Option Value} (X : K.In h) (G : h.Ns mainGlobals mg) (hfa : mg "law" = some (.ref fa))
    {od26 an26 od27 an27 od15 an15 od16 an16 od10 an10 od11 an11 : Option Addr} {sl26 sl27 sl15 sl16 sl10 sl11 : Array (Option Value)} {oc26 kV26 dc26 pm26 cd26 ct26 oc27 kV27 dc27 pm27 cd27 ct27 oc15 kV15 dc15 pm15 cd15 ct15 oc16 kV16 dc16 pm16 cd16 ct16 oc10 kV10 dc10 pm10 cd10 ct10 oc11 kV11 dc11 pm11 cd11 ct11 : Value} {od20 an20 : Option Addr} {sl20 : Array (Option Value)} {oc20 kV20 dc20 pm20 cd20 ct20 : Value}
    (a26 : PySem.W.nsIn K mainGlobals "_law_pool" = some (some (.ref f26))) (l26 : K.lookup f26 = some ⟨oc26, od26, .func (PySem.W.fnOf "_law_pool" "_law_pool" (defArgs sPool) (defBody sPool) (defScope sPool) .none kV26 dc26 pm26 an26 cd26 ct26), sl26⟩) (c26 : PySem.W.codeIn K cd26 "_law_pool" = true) (k26 : PySem.W.keepIn K (.ref f26) = true)
    (a27 : PySem.W.nsIn K mainGlobals "_law_draw" = some (some (.ref f27))) (l27 : K.lookup f27 = some ⟨oc27, od27, .func (PySem.W.fnOf "_law_draw" "_law_draw" (defArgs sDraw) (defBody sDraw) (defScope sDraw) .none kV27 dc27 pm27 an27 cd27 ct27), sl27⟩) (c27 : PySem.W.codeIn K cd27 "_law_draw" = true) (k27 : PySem.W.keepIn K (.ref f27) = true)
    (a15 : PySem.W.nsIn K mainGlobals "_law_flags" = some (some (.ref f15))) (l15 : K.lookup f15 = some ⟨oc15, od15, .func (PySem.W.fnOf "_law_flags" "_law_flags" (defArgs sFlags) (defBody sFlags) (defScope sFlags) .none kV15 dc15 pm15 an15 cd15 ct15), sl15⟩) (c15 : PySem.W.codeIn K cd15 "_law_flags" = true) (k15 : PySem.W.keepIn K (.ref f15) = true)
    (a16 : PySem.W.nsIn K mainGlobals "_law_all" = some (some (.ref f16))) (l16 : K.lookup f16 = some ⟨oc16, od16, .func (PySem.W.fnOf "_law_all" "_law_all" (defArgs sAll) (defBody sAll) (defScope sAll) .none kV16 dc16 pm16 an16 cd16 ct16), sl16⟩) (c16 : PySem.W.codeIn K cd16 "_law_all" = true) (k16 : PySem.W.keepIn K (.ref f16) = true)
    (a10 : PySem.W.nsIn K mainGlobals "_law_fits" = some (some (.ref f10))) (l10 : K.lookup f10 = some ⟨oc10, od10, .func (PySem.W.fnOf "_law_fits" "_law_fits" (defArgs sFits) (defBody sFits) (defScope sFits) .none kV10 dc10 pm10 an10 cd10 ct10), sl10⟩) (c10 : PySem.W.codeIn K cd10 "_law_fits" = true) (k10 : PySem.W.keepIn K (.ref f10) = true)
    (a11 : PySem.W.nsIn K mainGlobals "law" = some (some (.ref f11))) (l11 : K.lookup f11 = some ⟨oc11, od11, .func (PySem.W.fnOf "law" "law" (defArgs sLaw) (defBody sLaw) (defScope sLaw) .none kV11 dc11 pm11 an11 cd11 ct11), sl11⟩) (c11 : PySem.W.codeIn K cd11 "law" = true) (k11 : PySem.W.keepIn K (.ref f11) = true)
    (z_len : PySem.W.nsIn K mainGlobals "len" = some none)
    (z_max : PySem.W.nsIn K mainGlobals "max" = some none)
    (z_min : PySem.W.nsIn K mainGlobals "min" = some none)
    (z_abs : PySem.W.nsIn K mainGlobals "abs" = some none)
    (z_int : PySem.W.nsIn K mainGlobals "int" = some none)
    (z_range : PySem.W.nsIn K mainGlobals "range" = some none)
    (z_isinstance : PySem.W.nsIn K mainGlobals "isinstance" = some none)
    (z_repr : PySem.W.nsIn K mainGlobals "repr" = some none)
    (z_ValueError : PySem.W.nsIn K mainGlobals "ValueError" = some none)
    (z_enumerate : PySem.W.nsIn K mainGlobals "enumerate" = some none)
    (n_c0 : PySem.W.nsIn K mainGlobals "InvalidWord" = some (some (.ref c0)))
    (n_c1 : PySem.W.nsIn K mainGlobals "InvalidNumber" = some (some (.ref c1)))
    (n_c2 : PySem.W.nsIn K mainGlobals "InvalidText" = some (some (.ref c2)))
    (n_c3 : PySem.W.nsIn K mainGlobals "InvalidReading" = some (some (.ref c3)))
    (n_c4 : PySem.W.nsIn K mainGlobals "NotOneWay" = some (some (.ref c4)))
    (n_c5 : PySem.W.nsIn K mainGlobals "NotApart" = some (some (.ref c5)))
    (n_c6 : PySem.W.nsIn K mainGlobals "NothingToUndo" = some (some (.ref c6)))
    (n_c7 : PySem.W.nsIn K mainGlobals "TooMany" = some (some (.ref c7)))
    (n_c8 : PySem.W.nsIn K mainGlobals "Unreadable" = some (some (.ref c8)))
    (n_cE : PySem.W.nsIn K mainGlobals "WordError" = some (some (.ref cE)))
    (xc0 : K.lookup c0 = some (excClassObj nmc0 qnc0 c0 NAc0 bsc0 [.ref cE, .type "ValueError", .type "Exception", .type "BaseException", .type "object"] true snc0 subc0 abc0 colc0 ddc0 r0c0 r1c0 r2c0 r3c0 r5c0 "ValueError.__new__"))
    (sac0 : PySem.W.findIn K (.ref c0) "__setattr__" = some (some (.builtin "object.__setattr__")))
    (exc0 : PySem.W.subIn K (.ref c0) (.type "BaseException") = some true)
    (tyc0 : PySem.W.typeIn K (.ref c0) = some (.type "type"))
    (kpc0 : PySem.W.keepIn K (.ref c0) = true)
    (nvc0 : PySem.W.findIn K (.ref c0) "value" = some none)
    (gac0 : PySem.W.findIn K (.ref c0) "__getattribute__" = some (some (.builtin "BaseException.__getattribute__")))
    (ggc0 : PySem.W.findIn K (.ref c0) "__getattr__" = some none)
    (hdc0 : PySem.W.hasDictIn K c0 = true)
    (hac0 : PySem.W.findIn K (.ref c0) "__class__" = some (some (.builtin "object.__class__")))
    (hmc0 : PySem.W.mroIn K c0 (.type "object") = some true)
    (vSc0 : PySem.W.subIn K (.ref c0) (.type "ValueError") = some true)
    (qcc0 : PySem.W.isClsIn K c0 = true)
    (aic0 : PySem.W.findIn K (.ref c0) "__init__" = some (some (.ref f20)))
    (uc0c1 : PySem.W.subIn K (.ref c0) (.ref c1) = some false)
    (nec0c1 : c0 ≠ c1)
    (uc0c2 : PySem.W.subIn K (.ref c0) (.ref c2) = some false)
    (nec0c2 : c0 ≠ c2)
    (uc0c3 : PySem.W.subIn K (.ref c0) (.ref c3) = some false)
    (nec0c3 : c0 ≠ c3)
    (uc0c4 : PySem.W.subIn K (.ref c0) (.ref c4) = some false)
    (nec0c4 : c0 ≠ c4)
    (uc0c5 : PySem.W.subIn K (.ref c0) (.ref c5) = some false)
    (nec0c5 : c0 ≠ c5)
    (uc0c6 : PySem.W.subIn K (.ref c0) (.ref c6) = some false)
    (nec0c6 : c0 ≠ c6)
    (uc0c7 : PySem.W.subIn K (.ref c0) (.ref c7) = some false)
    (nec0c7 : c0 ≠ c7)
    (uc0c8 : PySem.W.subIn K (.ref c0) (.ref c8) = some false)
    (nec0c8 : c0 ≠ c8)
    (uc0cE : PySem.W.subIn K (.ref c0) (.ref cE) = some true)
    (xc1 : K.lookup c1 = some (excClassObj nmc1 qnc1 c1 NAc1 bsc1 [.ref cE, .type "ValueError", .type "Exception", .type "BaseException", .type "object"] true snc1 subc1 abc1 colc1 ddc1 r0c1 r1c1 r2c1 r3c1 r5c1 "ValueError.__new__"))
    (sac1 : PySem.W.findIn K (.ref c1) "__setattr__" = some (some (.builtin "object.__setattr__")))
    (exc1 : PySem.W.subIn K (.ref c1) (.type "BaseException") = some true)
    (tyc1 : PySem.W.typeIn K (.ref c1) = some (.type "type"))
    (kpc1 : PySem.W.keepIn K (.ref c1) = true)
    (nvc1 : PySem.W.findIn K (.ref c1) "value" = some none)
    (gac1 : PySem.W.findIn K (.ref c1) "__getattribute__" = some (some (.builtin "BaseException.__getattribute__")))
    (ggc1 : PySem.W.findIn K (.ref c1) "__getattr__" = some none)
    (hdc1 : PySem.W.hasDictIn K c1 = true)
    (hac1 : PySem.W.findIn K (.ref c1) "__class__" = some (some (.builtin "object.__class__")))
    (hmc1 : PySem.W.mroIn K c1 (.type "object") = some true)
    (vSc1 : PySem.W.subIn K (.ref c1) (.type "ValueError") = some true)
    (qcc1 : PySem.W.isClsIn K c1 = true)
    (aic1 : PySem.W.findIn K (.ref c1) "__init__" = some (some (.ref f20)))
    (uc1c0 : PySem.W.subIn K (.ref c1) (.ref c0) = some false)
    (nec1c0 : c1 ≠ c0)
    (uc1c2 : PySem.W.subIn K (.ref c1) (.ref c2) = some false)
    (nec1c2 : c1 ≠ c2)
    (uc1c3 : PySem.W.subIn K (.ref c1) (.ref c3) = some false)
    (nec1c3 : c1 ≠ c3)
    (uc1c4 : PySem.W.subIn K (.ref c1) (.ref c4) = some false)
    (nec1c4 : c1 ≠ c4)
    (uc1c5 : PySem.W.subIn K (.ref c1) (.ref c5) = some false)
    (nec1c5 : c1 ≠ c5)
    (uc1c6 : PySem.W.subIn K (.ref c1) (.ref c6) = some false)
    (nec1c6 : c1 ≠ c6)
    (uc1c7 : PySem.W.subIn K (.ref c1) (.ref c7) = some false)
    (nec1c7 : c1 ≠ c7)
    (uc1c8 : PySem.W.subIn K (.ref c1) (.ref c8) = some false)
    (nec1c8 : c1 ≠ c8)
    (uc1cE : PySem.W.subIn K (.ref c1) (.ref cE) = some true)
    (xc2 : K.lookup c2 = some (excClassObj nmc2 qnc2 c2 NAc2 bsc2 [.ref cE, .type "ValueError", .type "Exception", .type "BaseException", .type "object"] true snc2 subc2 abc2 colc2 ddc2 r0c2 r1c2 r2c2 r3c2 r5c2 "ValueError.__new__"))
    (sac2 : PySem.W.findIn K (.ref c2) "__setattr__" = some (some (.builtin "object.__setattr__")))
    (exc2 : PySem.W.subIn K (.ref c2) (.type "BaseException") = some true)
    (tyc2 : PySem.W.typeIn K (.ref c2) = some (.type "type"))
    (kpc2 : PySem.W.keepIn K (.ref c2) = true)
    (nvc2 : PySem.W.findIn K (.ref c2) "value" = some none)
    (gac2 : PySem.W.findIn K (.ref c2) "__getattribute__" = some (some (.builtin "BaseException.__getattribute__")))
    (ggc2 : PySem.W.findIn K (.ref c2) "__getattr__" = some none)
    (hdc2 : PySem.W.hasDictIn K c2 = true)
    (hac2 : PySem.W.findIn K (.ref c2) "__class__" = some (some (.builtin "object.__class__")))
    (hmc2 : PySem.W.mroIn K c2 (.type "object") = some true)
    (vSc2 : PySem.W.subIn K (.ref c2) (.type "ValueError") = some true)
    (qcc2 : PySem.W.isClsIn K c2 = true)
    (aic2 : PySem.W.findIn K (.ref c2) "__init__" = some (some (.ref f20)))
    (uc2c0 : PySem.W.subIn K (.ref c2) (.ref c0) = some false)
    (nec2c0 : c2 ≠ c0)
    (uc2c1 : PySem.W.subIn K (.ref c2) (.ref c1) = some false)
    (nec2c1 : c2 ≠ c1)
    (uc2c3 : PySem.W.subIn K (.ref c2) (.ref c3) = some false)
    (nec2c3 : c2 ≠ c3)
    (uc2c4 : PySem.W.subIn K (.ref c2) (.ref c4) = some false)
    (nec2c4 : c2 ≠ c4)
    (uc2c5 : PySem.W.subIn K (.ref c2) (.ref c5) = some false)
    (nec2c5 : c2 ≠ c5)
    (uc2c6 : PySem.W.subIn K (.ref c2) (.ref c6) = some false)
    (nec2c6 : c2 ≠ c6)
    (uc2c7 : PySem.W.subIn K (.ref c2) (.ref c7) = some false)
    (nec2c7 : c2 ≠ c7)
    (uc2c8 : PySem.W.subIn K (.ref c2) (.ref c8) = some false)
    (nec2c8 : c2 ≠ c8)
    (uc2cE : PySem.W.subIn K (.ref c2) (.ref cE) = some true)
    (xc3 : K.lookup c3 = some (excClassObj nmc3 qnc3 c3 NAc3 bsc3 [.ref cE, .type "ValueError", .type "Exception", .type "BaseException", .type "object"] true snc3 subc3 abc3 colc3 ddc3 r0c3 r1c3 r2c3 r3c3 r5c3 "ValueError.__new__"))
    (sac3 : PySem.W.findIn K (.ref c3) "__setattr__" = some (some (.builtin "object.__setattr__")))
    (exc3 : PySem.W.subIn K (.ref c3) (.type "BaseException") = some true)
    (tyc3 : PySem.W.typeIn K (.ref c3) = some (.type "type"))
    (kpc3 : PySem.W.keepIn K (.ref c3) = true)
    (nvc3 : PySem.W.findIn K (.ref c3) "value" = some none)
    (gac3 : PySem.W.findIn K (.ref c3) "__getattribute__" = some (some (.builtin "BaseException.__getattribute__")))
    (ggc3 : PySem.W.findIn K (.ref c3) "__getattr__" = some none)
    (hdc3 : PySem.W.hasDictIn K c3 = true)
    (hac3 : PySem.W.findIn K (.ref c3) "__class__" = some (some (.builtin "object.__class__")))
    (hmc3 : PySem.W.mroIn K c3 (.type "object") = some true)
    (vSc3 : PySem.W.subIn K (.ref c3) (.type "ValueError") = some true)
    (qcc3 : PySem.W.isClsIn K c3 = true)
    (aic3 : PySem.W.findIn K (.ref c3) "__init__" = some (some (.ref f20)))
    (uc3c0 : PySem.W.subIn K (.ref c3) (.ref c0) = some false)
    (nec3c0 : c3 ≠ c0)
    (uc3c1 : PySem.W.subIn K (.ref c3) (.ref c1) = some false)
    (nec3c1 : c3 ≠ c1)
    (uc3c2 : PySem.W.subIn K (.ref c3) (.ref c2) = some false)
    (nec3c2 : c3 ≠ c2)
    (uc3c4 : PySem.W.subIn K (.ref c3) (.ref c4) = some false)
    (nec3c4 : c3 ≠ c4)
    (uc3c5 : PySem.W.subIn K (.ref c3) (.ref c5) = some false)
    (nec3c5 : c3 ≠ c5)
    (uc3c6 : PySem.W.subIn K (.ref c3) (.ref c6) = some false)
    (nec3c6 : c3 ≠ c6)
    (uc3c7 : PySem.W.subIn K (.ref c3) (.ref c7) = some false)
    (nec3c7 : c3 ≠ c7)
    (uc3c8 : PySem.W.subIn K (.ref c3) (.ref c8) = some false)
    (nec3c8 : c3 ≠ c8)
    (uc3cE : PySem.W.subIn K (.ref c3) (.ref cE) = some true)
    (xc4 : K.lookup c4 = some (excClassObj nmc4 qnc4 c4 NAc4 bsc4 [.ref cE, .type "ValueError", .type "Exception", .type "BaseException", .type "object"] true snc4 subc4 abc4 colc4 ddc4 r0c4 r1c4 r2c4 r3c4 r5c4 "ValueError.__new__"))
    (sac4 : PySem.W.findIn K (.ref c4) "__setattr__" = some (some (.builtin "object.__setattr__")))
    (exc4 : PySem.W.subIn K (.ref c4) (.type "BaseException") = some true)
    (tyc4 : PySem.W.typeIn K (.ref c4) = some (.type "type"))
    (kpc4 : PySem.W.keepIn K (.ref c4) = true)
    (nvc4 : PySem.W.findIn K (.ref c4) "value" = some none)
    (gac4 : PySem.W.findIn K (.ref c4) "__getattribute__" = some (some (.builtin "BaseException.__getattribute__")))
    (ggc4 : PySem.W.findIn K (.ref c4) "__getattr__" = some none)
    (hdc4 : PySem.W.hasDictIn K c4 = true)
    (hac4 : PySem.W.findIn K (.ref c4) "__class__" = some (some (.builtin "object.__class__")))
    (hmc4 : PySem.W.mroIn K c4 (.type "object") = some true)
    (vSc4 : PySem.W.subIn K (.ref c4) (.type "ValueError") = some true)
    (qcc4 : PySem.W.isClsIn K c4 = true)
    (aic4 : PySem.W.findIn K (.ref c4) "__init__" = some (some (.ref f20)))
    (uc4c0 : PySem.W.subIn K (.ref c4) (.ref c0) = some false)
    (nec4c0 : c4 ≠ c0)
    (uc4c1 : PySem.W.subIn K (.ref c4) (.ref c1) = some false)
    (nec4c1 : c4 ≠ c1)
    (uc4c2 : PySem.W.subIn K (.ref c4) (.ref c2) = some false)
    (nec4c2 : c4 ≠ c2)
    (uc4c3 : PySem.W.subIn K (.ref c4) (.ref c3) = some false)
    (nec4c3 : c4 ≠ c3)
    (uc4c5 : PySem.W.subIn K (.ref c4) (.ref c5) = some false)
    (nec4c5 : c4 ≠ c5)
    (uc4c6 : PySem.W.subIn K (.ref c4) (.ref c6) = some false)
    (nec4c6 : c4 ≠ c6)
    (uc4c7 : PySem.W.subIn K (.ref c4) (.ref c7) = some false)
    (nec4c7 : c4 ≠ c7)
    (uc4c8 : PySem.W.subIn K (.ref c4) (.ref c8) = some false)
    (nec4c8 : c4 ≠ c8)
    (uc4cE : PySem.W.subIn K (.ref c4) (.ref cE) = some true)
    (xc5 : K.lookup c5 = some (excClassObj nmc5 qnc5 c5 NAc5 bsc5 [.ref cE, .type "ValueError", .type "Exception", .type "BaseException", .type "object"] true snc5 subc5 abc5 colc5 ddc5 r0c5 r1c5 r2c5 r3c5 r5c5 "ValueError.__new__"))
    (sac5 : PySem.W.findIn K (.ref c5) "__setattr__" = some (some (.builtin "object.__setattr__")))
    (exc5 : PySem.W.subIn K (.ref c5) (.type "BaseException") = some true)
    (tyc5 : PySem.W.typeIn K (.ref c5) = some (.type "type"))
    (kpc5 : PySem.W.keepIn K (.ref c5) = true)
    (nvc5 : PySem.W.findIn K (.ref c5) "value" = some none)
    (gac5 : PySem.W.findIn K (.ref c5) "__getattribute__" = some (some (.builtin "BaseException.__getattribute__")))
    (ggc5 : PySem.W.findIn K (.ref c5) "__getattr__" = some none)
    (hdc5 : PySem.W.hasDictIn K c5 = true)
    (hac5 : PySem.W.findIn K (.ref c5) "__class__" = some (some (.builtin "object.__class__")))
    (hmc5 : PySem.W.mroIn K c5 (.type "object") = some true)
    (vSc5 : PySem.W.subIn K (.ref c5) (.type "ValueError") = some true)
    (qcc5 : PySem.W.isClsIn K c5 = true)
    (aic5 : PySem.W.findIn K (.ref c5) "__init__" = some (some (.ref f20)))
    (uc5c0 : PySem.W.subIn K (.ref c5) (.ref c0) = some false)
    (nec5c0 : c5 ≠ c0)
    (uc5c1 : PySem.W.subIn K (.ref c5) (.ref c1) = some false)
    (nec5c1 : c5 ≠ c1)
    (uc5c2 : PySem.W.subIn K (.ref c5) (.ref c2) = some false)
    (nec5c2 : c5 ≠ c2)
    (uc5c3 : PySem.W.subIn K (.ref c5) (.ref c3) = some false)
    (nec5c3 : c5 ≠ c3)
    (uc5c4 : PySem.W.subIn K (.ref c5) (.ref c4) = some false)
    (nec5c4 : c5 ≠ c4)
    (uc5c6 : PySem.W.subIn K (.ref c5) (.ref c6) = some false)
    (nec5c6 : c5 ≠ c6)
    (uc5c7 : PySem.W.subIn K (.ref c5) (.ref c7) = some false)
    (nec5c7 : c5 ≠ c7)
    (uc5c8 : PySem.W.subIn K (.ref c5) (.ref c8) = some false)
    (nec5c8 : c5 ≠ c8)
    (uc5cE : PySem.W.subIn K (.ref c5) (.ref cE) = some true)
    (xc6 : K.lookup c6 = some (excClassObj nmc6 qnc6 c6 NAc6 bsc6 [.ref cE, .type "ValueError", .type "Exception", .type "BaseException", .type "object"] true snc6 subc6 abc6 colc6 ddc6 r0c6 r1c6 r2c6 r3c6 r5c6 "ValueError.__new__"))
    (sac6 : PySem.W.findIn K (.ref c6) "__setattr__" = some (some (.builtin "object.__setattr__")))
    (exc6 : PySem.W.subIn K (.ref c6) (.type "BaseException") = some true)
    (tyc6 : PySem.W.typeIn K (.ref c6) = some (.type "type"))
    (kpc6 : PySem.W.keepIn K (.ref c6) = true)
    (nvc6 : PySem.W.findIn K (.ref c6) "value" = some none)
    (gac6 : PySem.W.findIn K (.ref c6) "__getattribute__" = some (some (.builtin "BaseException.__getattribute__")))
    (ggc6 : PySem.W.findIn K (.ref c6) "__getattr__" = some none)
    (hdc6 : PySem.W.hasDictIn K c6 = true)
    (hac6 : PySem.W.findIn K (.ref c6) "__class__" = some (some (.builtin "object.__class__")))
    (hmc6 : PySem.W.mroIn K c6 (.type "object") = some true)
    (vSc6 : PySem.W.subIn K (.ref c6) (.type "ValueError") = some true)
    (qcc6 : PySem.W.isClsIn K c6 = true)
    (aic6 : PySem.W.findIn K (.ref c6) "__init__" = some (some (.ref f20)))
    (uc6c0 : PySem.W.subIn K (.ref c6) (.ref c0) = some false)
    (nec6c0 : c6 ≠ c0)
    (uc6c1 : PySem.W.subIn K (.ref c6) (.ref c1) = some false)
    (nec6c1 : c6 ≠ c1)
    (uc6c2 : PySem.W.subIn K (.ref c6) (.ref c2) = some false)
    (nec6c2 : c6 ≠ c2)
    (uc6c3 : PySem.W.subIn K (.ref c6) (.ref c3) = some false)
    (nec6c3 : c6 ≠ c3)
    (uc6c4 : PySem.W.subIn K (.ref c6) (.ref c4) = some false)
    (nec6c4 : c6 ≠ c4)
    (uc6c5 : PySem.W.subIn K (.ref c6) (.ref c5) = some false)
    (nec6c5 : c6 ≠ c5)
    (uc6c7 : PySem.W.subIn K (.ref c6) (.ref c7) = some false)
    (nec6c7 : c6 ≠ c7)
    (uc6c8 : PySem.W.subIn K (.ref c6) (.ref c8) = some false)
    (nec6c8 : c6 ≠ c8)
    (uc6cE : PySem.W.subIn K (.ref c6) (.ref cE) = some true)
    (xc7 : K.lookup c7 = some (excClassObj nmc7 qnc7 c7 NAc7 bsc7 [.ref cE, .type "ValueError", .type "Exception", .type "BaseException", .type "object"] true snc7 subc7 abc7 colc7 ddc7 r0c7 r1c7 r2c7 r3c7 r5c7 "ValueError.__new__"))
    (sac7 : PySem.W.findIn K (.ref c7) "__setattr__" = some (some (.builtin "object.__setattr__")))
    (exc7 : PySem.W.subIn K (.ref c7) (.type "BaseException") = some true)
    (tyc7 : PySem.W.typeIn K (.ref c7) = some (.type "type"))
    (kpc7 : PySem.W.keepIn K (.ref c7) = true)
    (nvc7 : PySem.W.findIn K (.ref c7) "value" = some none)
    (gac7 : PySem.W.findIn K (.ref c7) "__getattribute__" = some (some (.builtin "BaseException.__getattribute__")))
    (ggc7 : PySem.W.findIn K (.ref c7) "__getattr__" = some none)
    (hdc7 : PySem.W.hasDictIn K c7 = true)
    (hac7 : PySem.W.findIn K (.ref c7) "__class__" = some (some (.builtin "object.__class__")))
    (hmc7 : PySem.W.mroIn K c7 (.type "object") = some true)
    (vSc7 : PySem.W.subIn K (.ref c7) (.type "ValueError") = some true)
    (qcc7 : PySem.W.isClsIn K c7 = true)
    (aic7 : PySem.W.findIn K (.ref c7) "__init__" = some (some (.ref f20)))
    (uc7c0 : PySem.W.subIn K (.ref c7) (.ref c0) = some false)
    (nec7c0 : c7 ≠ c0)
    (uc7c1 : PySem.W.subIn K (.ref c7) (.ref c1) = some false)
    (nec7c1 : c7 ≠ c1)
    (uc7c2 : PySem.W.subIn K (.ref c7) (.ref c2) = some false)
    (nec7c2 : c7 ≠ c2)
    (uc7c3 : PySem.W.subIn K (.ref c7) (.ref c3) = some false)
    (nec7c3 : c7 ≠ c3)
    (uc7c4 : PySem.W.subIn K (.ref c7) (.ref c4) = some false)
    (nec7c4 : c7 ≠ c4)
    (uc7c5 : PySem.W.subIn K (.ref c7) (.ref c5) = some false)
    (nec7c5 : c7 ≠ c5)
    (uc7c6 : PySem.W.subIn K (.ref c7) (.ref c6) = some false)
    (nec7c6 : c7 ≠ c6)
    (uc7c8 : PySem.W.subIn K (.ref c7) (.ref c8) = some false)
    (nec7c8 : c7 ≠ c8)
    (uc7cE : PySem.W.subIn K (.ref c7) (.ref cE) = some true)
    (xc8 : K.lookup c8 = some (excClassObj nmc8 qnc8 c8 NAc8 bsc8 [.ref cE, .type "ValueError", .type "Exception", .type "BaseException", .type "object"] true snc8 subc8 abc8 colc8 ddc8 r0c8 r1c8 r2c8 r3c8 r5c8 "ValueError.__new__"))
    (sac8 : PySem.W.findIn K (.ref c8) "__setattr__" = some (some (.builtin "object.__setattr__")))
    (exc8 : PySem.W.subIn K (.ref c8) (.type "BaseException") = some true)
    (tyc8 : PySem.W.typeIn K (.ref c8) = some (.type "type"))
    (kpc8 : PySem.W.keepIn K (.ref c8) = true)
    (nvc8 : PySem.W.findIn K (.ref c8) "value" = some none)
    (gac8 : PySem.W.findIn K (.ref c8) "__getattribute__" = some (some (.builtin "BaseException.__getattribute__")))
    (ggc8 : PySem.W.findIn K (.ref c8) "__getattr__" = some none)
    (hdc8 : PySem.W.hasDictIn K c8 = true)
    (hac8 : PySem.W.findIn K (.ref c8) "__class__" = some (some (.builtin "object.__class__")))
    (hmc8 : PySem.W.mroIn K c8 (.type "object") = some true)
    (vSc8 : PySem.W.subIn K (.ref c8) (.type "ValueError") = some true)
    (qcc8 : PySem.W.isClsIn K c8 = true)
    (aic8 : PySem.W.findIn K (.ref c8) "__init__" = some (some (.ref f20)))
    (uc8c0 : PySem.W.subIn K (.ref c8) (.ref c0) = some false)
    (nec8c0 : c8 ≠ c0)
    (uc8c1 : PySem.W.subIn K (.ref c8) (.ref c1) = some false)
    (nec8c1 : c8 ≠ c1)
    (uc8c2 : PySem.W.subIn K (.ref c8) (.ref c2) = some false)
    (nec8c2 : c8 ≠ c2)
    (uc8c3 : PySem.W.subIn K (.ref c8) (.ref c3) = some false)
    (nec8c3 : c8 ≠ c3)
    (uc8c4 : PySem.W.subIn K (.ref c8) (.ref c4) = some false)
    (nec8c4 : c8 ≠ c4)
    (uc8c5 : PySem.W.subIn K (.ref c8) (.ref c5) = some false)
    (nec8c5 : c8 ≠ c5)
    (uc8c6 : PySem.W.subIn K (.ref c8) (.ref c6) = some false)
    (nec8c6 : c8 ≠ c6)
    (uc8c7 : PySem.W.subIn K (.ref c8) (.ref c7) = some false)
    (nec8c7 : c8 ≠ c7)
    (uc8cE : PySem.W.subIn K (.ref c8) (.ref cE) = some true)
    (xcE : K.lookup cE = some (excClassObj nmcE qncE cE NAcE bscE [.type "ValueError", .type "Exception", .type "BaseException", .type "object"] true sncE subcE abcE colcE ddcE r0cE r1cE r2cE r3cE r5cE "ValueError.__new__"))
    (sacE : PySem.W.findIn K (.ref cE) "__setattr__" = some (some (.builtin "object.__setattr__")))
    (excE : PySem.W.subIn K (.ref cE) (.type "BaseException") = some true)
    (tycE : PySem.W.typeIn K (.ref cE) = some (.type "type"))
    (kpcE : PySem.W.keepIn K (.ref cE) = true)
    (nvcE : PySem.W.findIn K (.ref cE) "value" = some none)
    (gacE : PySem.W.findIn K (.ref cE) "__getattribute__" = some (some (.builtin "BaseException.__getattribute__")))
    (ggcE : PySem.W.findIn K (.ref cE) "__getattr__" = some none)
    (hdcE : PySem.W.hasDictIn K cE = true)
    (hacE : PySem.W.findIn K (.ref cE) "__class__" = some (some (.builtin "object.__class__")))
    (hmcE : PySem.W.mroIn K cE (.type "object") = some true)
    (vScE : PySem.W.subIn K (.ref cE) (.type "ValueError") = some true)
    (qccE : PySem.W.isClsIn K cE = true)
    (aicE : PySem.W.findIn K (.ref cE) "__init__" = some (some (.ref f20)))
    (ucEc0 : PySem.W.subIn K (.ref cE) (.ref c0) = some false)
    (necEc0 : cE ≠ c0)
    (ucEc1 : PySem.W.subIn K (.ref cE) (.ref c1) = some false)
    (necEc1 : cE ≠ c1)
    (ucEc2 : PySem.W.subIn K (.ref cE) (.ref c2) = some false)
    (necEc2 : cE ≠ c2)
    (ucEc3 : PySem.W.subIn K (.ref cE) (.ref c3) = some false)
    (necEc3 : cE ≠ c3)
    (ucEc4 : PySem.W.subIn K (.ref cE) (.ref c4) = some false)
    (necEc4 : cE ≠ c4)
    (ucEc5 : PySem.W.subIn K (.ref cE) (.ref c5) = some false)
    (necEc5 : cE ≠ c5)
    (ucEc6 : PySem.W.subIn K (.ref cE) (.ref c6) = some false)
    (necEc6 : cE ≠ c6)
    (ucEc7 : PySem.W.subIn K (.ref cE) (.ref c7) = some false)
    (necEc7 : cE ≠ c7)
    (ucEc8 : PySem.W.subIn K (.ref cE) (.ref c8) = some false)
    (necEc8 : cE ≠ c8)
    (hn : PySem.W.specialIn K (.builtin "object.__class__") "__get__" = some (some (.builtin "getset_descriptor.__get__")))
    (htk : PySem.W.takesIn K (.builtin "object.__class__") = some true)
    (t20 : PySem.W.typeIn K (.ref f20) = some (.type "function")) (l20 : K.lookup f20 = some ⟨oc20, od20, .func (PySem.W.fnOf "__init__" "WordError.__init__" (defArgs sEInit) (defBody sEInit) (defScope sEInit) .none kV20 dc20 pm20 an20 cd20 ct20), sl20⟩) (c20 : PySem.W.codeIn K cd20 "WordError.__init__" = true) (k20 : PySem.W.keepIn K (.ref f20) = true) :
    ∃ fd : FuncData, (∀ (s : Shared) (v : Value), BindsTo s fd ⟨[v], []⟩ [("script", v)]) ∧ ∀ base : Heap, K.In base → base.Ns mainGlobals mg → FnG l.prog w K mg base CX0 5 fa fd ["script"] (spLaw K) := by
  have e := hfa.symm.trans (PySem.W.mg_of X G a11)
  cases e
  have F26 := fun_mk (st := sPool) l26 c26 k26
  have F27 := fun_mk (st := sDraw) l27 c27 k27
  have F15 := fun_mk (st := sFlags) l15 c15 k15
  have F16 := fun_mk (st := sAll) l16 c16 k16
  have F10 := fun_mk (st := sFits) l10 c10 k10
  have F11 := fun_mk (st := sLaw) l11 c11 k11
  have F20 := fun_mk (st := sEInit) l20 c20 k20
  have b26 := F26.binds (ps := ["script", "spot"]) fun _ _ _ _ _ _ us hl => match us, hl with | [_, _], _ => rfl
  have b27 := F27.binds (ps := ["pool", "span"]) fun _ _ _ _ _ _ us hl => match us, hl with | [_, _], _ => rfl
  have b15 := F15.binds (ps := ["e"]) fun _ _ _ _ _ _ us hl => match us, hl with | [_], _ => rfl
  have b16 := F16.binds (ps := ["thing", "is_named"]) fun _ _ _ _ _ _ us hl => match us, hl with | [_, _], _ => rfl
  have b10 := F10.binds (ps := ["pool"]) fun _ _ _ _ _ _ us hl => match us, hl with | [_], _ => rfl
  have b20 := F20.binds (ps := ["self", "value"]) fun _ _ _ _ _ _ us hl => match us, hl with | [_, _], _ => rfl
  have B : Bu mg := ⟨PySem.W.mg_none_of X G z_len, PySem.W.mg_none_of X G z_max, PySem.W.mg_none_of X G z_min, PySem.W.mg_none_of X G z_abs, PySem.W.mg_none_of X G z_int, PySem.W.mg_none_of X G z_range⟩
  have BX : BuX mg := ⟨B, PySem.W.mg_none_of X G z_repr, PySem.W.mg_none_of X G z_enumerate⟩
  have kbi : KBn K _ ["self", "value"] 1 ["value"] (fun us ws => us ++ ws) (fun us ws => us ++ ws) := kbn_words F20 fun _ _ _ _ _ _ us ws h1 h2 => match us, ws, h1, h2 with | [_], [_], _, _ => rfl
  have ec0 : ErrC K mg "InvalidWord" c0 f20 := ⟨⟨⟨_, _, _, _, _, _, _, _, _, _, _, _, _, _, _, xc0, by show PySem.HandSPX.refsVE [.type "ValueError", .type "Exception", .type "BaseException", .type "object"] = true; decide +kernel⟩, sac0, exc0, tyc0, kpc0⟩, PySem.W.mg_of X G n_c0, nvc0, aic0, t20⟩
  have ec1 : ErrC K mg "InvalidNumber" c1 f20 := ⟨⟨⟨_, _, _, _, _, _, _, _, _, _, _, _, _, _, _, xc1, by show PySem.HandSPX.refsVE [.type "ValueError", .type "Exception", .type "BaseException", .type "object"] = true; decide +kernel⟩, sac1, exc1, tyc1, kpc1⟩, PySem.W.mg_of X G n_c1, nvc1, aic1, t20⟩
  have ec2 : ErrC K mg "InvalidText" c2 f20 := ⟨⟨⟨_, _, _, _, _, _, _, _, _, _, _, _, _, _, _, xc2, by show PySem.HandSPX.refsVE [.type "ValueError", .type "Exception", .type "BaseException", .type "object"] = true; decide +kernel⟩, sac2, exc2, tyc2, kpc2⟩, PySem.W.mg_of X G n_c2, nvc2, aic2, t20⟩
  have ec3 : ErrC K mg "InvalidReading" c3 f20 := ⟨⟨⟨_, _, _, _, _, _, _, _, _, _, _, _, _, _, _, xc3, by show PySem.HandSPX.refsVE [.type "ValueError", .type "Exception", .type "BaseException", .type "object"] = true; decide +kernel⟩, sac3, exc3, tyc3, kpc3⟩, PySem.W.mg_of X G n_c3, nvc3, aic3, t20⟩
  have ec4 : ErrC K mg "NotOneWay" c4 f20 := ⟨⟨⟨_, _, _, _, _, _, _, _, _, _, _, _, _, _, _, xc4, by show PySem.HandSPX.refsVE [.type "ValueError", .type "Exception", .type "BaseException", .type "object"] = true; decide +kernel⟩, sac4, exc4, tyc4, kpc4⟩, PySem.W.mg_of X G n_c4, nvc4, aic4, t20⟩
  have ec5 : ErrC K mg "NotApart" c5 f20 := ⟨⟨⟨_, _, _, _, _, _, _, _, _, _, _, _, _, _, _, xc5, by show PySem.HandSPX.refsVE [.type "ValueError", .type "Exception", .type "BaseException", .type "object"] = true; decide +kernel⟩, sac5, exc5, tyc5, kpc5⟩, PySem.W.mg_of X G n_c5, nvc5, aic5, t20⟩
  have ec6 : ErrC K mg "NothingToUndo" c6 f20 := ⟨⟨⟨_, _, _, _, _, _, _, _, _, _, _, _, _, _, _, xc6, by show PySem.HandSPX.refsVE [.type "ValueError", .type "Exception", .type "BaseException", .type "object"] = true; decide +kernel⟩, sac6, exc6, tyc6, kpc6⟩, PySem.W.mg_of X G n_c6, nvc6, aic6, t20⟩
  have ec7 : ErrC K mg "TooMany" c7 f20 := ⟨⟨⟨_, _, _, _, _, _, _, _, _, _, _, _, _, _, _, xc7, by show PySem.HandSPX.refsVE [.type "ValueError", .type "Exception", .type "BaseException", .type "object"] = true; decide +kernel⟩, sac7, exc7, tyc7, kpc7⟩, PySem.W.mg_of X G n_c7, nvc7, aic7, t20⟩
  have ec8 : ErrC K mg "Unreadable" c8 f20 := ⟨⟨⟨_, _, _, _, _, _, _, _, _, _, _, _, _, _, _, xc8, by show PySem.HandSPX.refsVE [.type "ValueError", .type "Exception", .type "BaseException", .type "object"] = true; decide +kernel⟩, sac8, exc8, tyc8, kpc8⟩, PySem.W.mg_of X G n_c8, nvc8, aic8, t20⟩
  have ecE : ErrC K mg "WordError" cE f20 := ⟨⟨⟨_, _, _, _, _, _, _, _, _, _, _, _, _, _, _, xcE, by show PySem.HandSPX.refsVE [.type "ValueError", .type "Exception", .type "BaseException", .type "object"] = true; decide +kernel⟩, sacE, excE, tycE, kpcE⟩, PySem.W.mg_of X G n_cE, nvcE, aicE, t20⟩
  have T : Ten K mg c0 c1 c2 c3 c4 c5 c6 c7 c8 cE f20 := ⟨ec0, ec1, ec2, ec3, ec4, ec5, ec6, ec7, ec8, ecE, PySem.W.mg_none_of X G z_ValueError⟩
  have O0 : One K c0 c1 c2 c3 c4 c5 c6 c7 c8 cE c0 (isAt 0) := ⟨⟨gac0, ggc0, exc0, hdc0, hac0, hn, htk, hmc0⟩, ⟨gac0, ggc0, exc0, hdc0⟩, nvc0, kit_VE vSc0, kit_ref qccE tycE uc0cE (.inl rfl), kit_self, kit_ref qcc1 tyc1 uc0c1 (.inr nec0c1), kit_ref qcc2 tyc2 uc0c2 (.inr nec0c2), kit_ref qcc3 tyc3 uc0c3 (.inr nec0c3), kit_ref qcc4 tyc4 uc0c4 (.inr nec0c4), kit_ref qcc5 tyc5 uc0c5 (.inr nec0c5), kit_ref qcc6 tyc6 uc0c6 (.inr nec0c6), kit_ref qcc7 tyc7 uc0c7 (.inr nec0c7), kit_ref qcc8 tyc8 uc0c8 (.inr nec0c8)⟩
  have O1 : One K c0 c1 c2 c3 c4 c5 c6 c7 c8 cE c1 (isAt 1) := ⟨⟨gac1, ggc1, exc1, hdc1, hac1, hn, htk, hmc1⟩, ⟨gac1, ggc1, exc1, hdc1⟩, nvc1, kit_VE vSc1, kit_ref qccE tycE uc1cE (.inl rfl), kit_ref qcc0 tyc0 uc1c0 (.inr nec1c0), kit_self, kit_ref qcc2 tyc2 uc1c2 (.inr nec1c2), kit_ref qcc3 tyc3 uc1c3 (.inr nec1c3), kit_ref qcc4 tyc4 uc1c4 (.inr nec1c4), kit_ref qcc5 tyc5 uc1c5 (.inr nec1c5), kit_ref qcc6 tyc6 uc1c6 (.inr nec1c6), kit_ref qcc7 tyc7 uc1c7 (.inr nec1c7), kit_ref qcc8 tyc8 uc1c8 (.inr nec1c8)⟩
  have O2 : One K c0 c1 c2 c3 c4 c5 c6 c7 c8 cE c2 (isAt 2) := ⟨⟨gac2, ggc2, exc2, hdc2, hac2, hn, htk, hmc2⟩, ⟨gac2, ggc2, exc2, hdc2⟩, nvc2, kit_VE vSc2, kit_ref qccE tycE uc2cE (.inl rfl), kit_ref qcc0 tyc0 uc2c0 (.inr nec2c0), kit_ref qcc1 tyc1 uc2c1 (.inr nec2c1), kit_self, kit_ref qcc3 tyc3 uc2c3 (.inr nec2c3), kit_ref qcc4 tyc4 uc2c4 (.inr nec2c4), kit_ref qcc5 tyc5 uc2c5 (.inr nec2c5), kit_ref qcc6 tyc6 uc2c6 (.inr nec2c6), kit_ref qcc7 tyc7 uc2c7 (.inr nec2c7), kit_ref qcc8 tyc8 uc2c8 (.inr nec2c8)⟩
  have O3 : One K c0 c1 c2 c3 c4 c5 c6 c7 c8 cE c3 (isAt 3) := ⟨⟨gac3, ggc3, exc3, hdc3, hac3, hn, htk, hmc3⟩, ⟨gac3, ggc3, exc3, hdc3⟩, nvc3, kit_VE vSc3, kit_ref qccE tycE uc3cE (.inl rfl), kit_ref qcc0 tyc0 uc3c0 (.inr nec3c0), kit_ref qcc1 tyc1 uc3c1 (.inr nec3c1), kit_ref qcc2 tyc2 uc3c2 (.inr nec3c2), kit_self, kit_ref qcc4 tyc4 uc3c4 (.inr nec3c4), kit_ref qcc5 tyc5 uc3c5 (.inr nec3c5), kit_ref qcc6 tyc6 uc3c6 (.inr nec3c6), kit_ref qcc7 tyc7 uc3c7 (.inr nec3c7), kit_ref qcc8 tyc8 uc3c8 (.inr nec3c8)⟩
  have O4 : One K c0 c1 c2 c3 c4 c5 c6 c7 c8 cE c4 (isAt 4) := ⟨⟨gac4, ggc4, exc4, hdc4, hac4, hn, htk, hmc4⟩, ⟨gac4, ggc4, exc4, hdc4⟩, nvc4, kit_VE vSc4, kit_ref qccE tycE uc4cE (.inl rfl), kit_ref qcc0 tyc0 uc4c0 (.inr nec4c0), kit_ref qcc1 tyc1 uc4c1 (.inr nec4c1), kit_ref qcc2 tyc2 uc4c2 (.inr nec4c2), kit_ref qcc3 tyc3 uc4c3 (.inr nec4c3), kit_self, kit_ref qcc5 tyc5 uc4c5 (.inr nec4c5), kit_ref qcc6 tyc6 uc4c6 (.inr nec4c6), kit_ref qcc7 tyc7 uc4c7 (.inr nec4c7), kit_ref qcc8 tyc8 uc4c8 (.inr nec4c8)⟩
  have O5 : One K c0 c1 c2 c3 c4 c5 c6 c7 c8 cE c5 (isAt 5) := ⟨⟨gac5, ggc5, exc5, hdc5, hac5, hn, htk, hmc5⟩, ⟨gac5, ggc5, exc5, hdc5⟩, nvc5, kit_VE vSc5, kit_ref qccE tycE uc5cE (.inl rfl), kit_ref qcc0 tyc0 uc5c0 (.inr nec5c0), kit_ref qcc1 tyc1 uc5c1 (.inr nec5c1), kit_ref qcc2 tyc2 uc5c2 (.inr nec5c2), kit_ref qcc3 tyc3 uc5c3 (.inr nec5c3), kit_ref qcc4 tyc4 uc5c4 (.inr nec5c4), kit_self, kit_ref qcc6 tyc6 uc5c6 (.inr nec5c6), kit_ref qcc7 tyc7 uc5c7 (.inr nec5c7), kit_ref qcc8 tyc8 uc5c8 (.inr nec5c8)⟩
  have O6 : One K c0 c1 c2 c3 c4 c5 c6 c7 c8 cE c6 (isAt 6) := ⟨⟨gac6, ggc6, exc6, hdc6, hac6, hn, htk, hmc6⟩, ⟨gac6, ggc6, exc6, hdc6⟩, nvc6, kit_VE vSc6, kit_ref qccE tycE uc6cE (.inl rfl), kit_ref qcc0 tyc0 uc6c0 (.inr nec6c0), kit_ref qcc1 tyc1 uc6c1 (.inr nec6c1), kit_ref qcc2 tyc2 uc6c2 (.inr nec6c2), kit_ref qcc3 tyc3 uc6c3 (.inr nec6c3), kit_ref qcc4 tyc4 uc6c4 (.inr nec6c4), kit_ref qcc5 tyc5 uc6c5 (.inr nec6c5), kit_self, kit_ref qcc7 tyc7 uc6c7 (.inr nec6c7), kit_ref qcc8 tyc8 uc6c8 (.inr nec6c8)⟩
  have O7 : One K c0 c1 c2 c3 c4 c5 c6 c7 c8 cE c7 (isAt 7) := ⟨⟨gac7, ggc7, exc7, hdc7, hac7, hn, htk, hmc7⟩, ⟨gac7, ggc7, exc7, hdc7⟩, nvc7, kit_VE vSc7, kit_ref qccE tycE uc7cE (.inl rfl), kit_ref qcc0 tyc0 uc7c0 (.inr nec7c0), kit_ref qcc1 tyc1 uc7c1 (.inr nec7c1), kit_ref qcc2 tyc2 uc7c2 (.inr nec7c2), kit_ref qcc3 tyc3 uc7c3 (.inr nec7c3), kit_ref qcc4 tyc4 uc7c4 (.inr nec7c4), kit_ref qcc5 tyc5 uc7c5 (.inr nec7c5), kit_ref qcc6 tyc6 uc7c6 (.inr nec7c6), kit_self, kit_ref qcc8 tyc8 uc7c8 (.inr nec7c8)⟩
  have O8 : One K c0 c1 c2 c3 c4 c5 c6 c7 c8 cE c8 (isAt 8) := ⟨⟨gac8, ggc8, exc8, hdc8, hac8, hn, htk, hmc8⟩, ⟨gac8, ggc8, exc8, hdc8⟩, nvc8, kit_VE vSc8, kit_ref qccE tycE uc8cE (.inl rfl), kit_ref qcc0 tyc0 uc8c0 (.inr nec8c0), kit_ref qcc1 tyc1 uc8c1 (.inr nec8c1), kit_ref qcc2 tyc2 uc8c2 (.inr nec8c2), kit_ref qcc3 tyc3 uc8c3 (.inr nec8c3), kit_ref qcc4 tyc4 uc8c4 (.inr nec8c4), kit_ref qcc5 tyc5 uc8c5 (.inr nec8c5), kit_ref qcc6 tyc6 uc8c6 (.inr nec8c6), kit_ref qcc7 tyc7 uc8c7 (.inr nec8c7), kit_self⟩
  have O9 : One K c0 c1 c2 c3 c4 c5 c6 c7 c8 cE cE (isAt 9) := ⟨⟨gacE, ggcE, excE, hdcE, hacE, hn, htk, hmcE⟩, ⟨gacE, ggcE, excE, hdcE⟩, nvcE, kit_VE vScE, kit_self, kit_ref qcc0 tyc0 ucEc0 (.inr necEc0), kit_ref qcc1 tyc1 ucEc1 (.inr necEc1), kit_ref qcc2 tyc2 ucEc2 (.inr necEc2), kit_ref qcc3 tyc3 ucEc3 (.inr necEc3), kit_ref qcc4 tyc4 ucEc4 (.inr necEc4), kit_ref qcc5 tyc5 ucEc5 (.inr necEc5), kit_ref qcc6 tyc6 ucEc6 (.inr necEc6), kit_ref qcc7 tyc7 ucEc7 (.inr necEc7), kit_ref qcc8 tyc8 ucEc8 (.inr necEc8)⟩
  have O : ∀ (i : Nat) (D : Addr), ([c0, c1, c2, c3, c4, c5, c6, c7, c8, cE] : List Addr)[i]? = some D → One K c0 c1 c2 c3 c4 c5 c6 c7 c8 cE D (isAt i) := by
    intro i D h
    match i, h with
    | 0, h => cases h; exact O0
    | 1, h => cases h; exact O1
    | 2, h => cases h; exact O2
    | 3, h => cases h; exact O3
    | 4, h => cases h; exact O4
    | 5, h => cases h; exact O5
    | 6, h => cases h; exact O6
    | 7, h => cases h; exact O7
    | 8, h => cases h; exact O8
    | 9, h => cases h; exact O9
    | n + 10, h => simp at h
  refine ⟨PySem.W.fnOf "law" "law" (defArgs sLaw) (defBody sLaw) (defScope sLaw) .none kV11 dc11 pm11 an11 cd11 ct11, fun s v => .of_eq rfl, fun base _ _ => ?_⟩
  have G20 : FnOk l.prog w K mg base CX0 1 f20 _ ["self", "value"] (spEInit K) := ok_einit F20
  have G26 : FnOk l.prog w K mg base CX0 1 f26 _ ["script", "spot"] (spPool K) := ok_pool F26 B
  have G27 : FnOk l.prog w K mg base CX0 1 f27 _ ["pool", "span"] spDraw := ok_draw F27 B
  have G15 : FnOk l.prog w K mg base CX0 1 f15 _ ["e"] (spFlags K c0 c1 c2 c3 c4 c5 c6 c7 c8 cE) := ok_flags F15 T (PySem.W.mg_none_of X G z_isinstance)
  have G16 : FnOk l.prog w K mg base CX0 3 f16 _ ["thing", "is_named"] (spAll c0 c1 c2 c3 c4 c5 c6 c7 c8 cE) := ok_all F16 T G20 b20 kbi
  have G10 : FnG l.prog w K mg base CX0 4 f10 _ ["pool"] spFits := ok_fits F10 BX T (PySem.W.mg_none_of X G z_isinstance) O ⟨G27, b27, k27, PySem.W.mg_of X G a27⟩ ⟨G16, b16, k16, PySem.W.mg_of X G a16⟩ ⟨G15, b15, k15, PySem.W.mg_of X G a15⟩
  exact ok_law F11 B ⟨G26, b26, k26, PySem.W.mg_of X G a26⟩ G10 b10 k10 (PySem.W.mg_of X G a10)
theorem walk {l : PySem.W.OpenLaw} {q : Program} {loose : List Str} {XP : (Str → Option Value) → Heap → Prop} {YP : World → Heap → Prop} {d : DefRec} {K : Params → PySem.W.Frag} (hn : l.most = some 63) (hdf : d.params.defaults = [])
    (hY : ∀ (w : World) (h : Heap), YP w h → (K w.params).In h)
    (F : ∀ (w : World) (mg : Str → Option Value) (fa : Addr) (h : Heap), (K w.params).In h → h.Ns mainGlobals mg → mg d.name = some (.ref fa) →
      ∃ fd : FuncData, (∀ (s : Shared) (u : Value), BindsTo s fd ⟨[u], []⟩ [("script", u)]) ∧ ∀ base : Heap, (K w.params).In base → base.Ns mainGlobals mg → FnG l.prog w (K w.params) mg base CX0 5 fa fd ["script"] (spLaw (K w.params))) :
    PySem.W.WalkO q loose XP YP l.row.toRowW d [] (fun f vs => PySem.call f vs) :=
  walk_G (n := 63) (k := 5) (x := "script") (sp := fun w => spLaw (K w.params)) hn (by decide) hdf ⟨rfl, by decide, by decide⟩ hY F (fun _ _ a ns hl _ hS => ⟨a, ns, rfl, hS, hl, fun _ => rfl⟩)
end WH
open PySem PySem.W PyProof.Rows
set_option maxRecDepth 100000 in
set_option maxHeartbeats 0 in
theorem PySem.Challenge.cw_wordhulls_k01_errors_and_their_values_holds : PySem.Challenge.rw_wordhulls_k01_errors_and_their_values.Holds := by
  w_on; o_law; k_head; (case hw => w_witness2)
  k_fill
  refine WH.walk (l := PySem.Challenge.rw_wordhulls_k01_errors_and_their_values) rfl rfl (fun w h Y => PySem.W.kIn_of Y) ?F
  case F =>
    intro w mg fa h KX G hmg
    refine' WH.all_mk KX G hmg ?a26 ?l26 ?c26 ?k26 ?a27 ?l27 ?c27 ?k27 ?a15 ?l15 ?c15 ?k15 ?a16 ?l16 ?c16 ?k16 ?a10 ?l10 ?c10 ?k10 ?a11 ?l11 ?c11 ?k11 ?z_len ?z_max ?z_min ?z_abs ?z_int ?z_range ?z_isinstance ?z_repr ?z_ValueError ?z_enumerate ?n_c0 ?n_c1 ?n_c2 ?n_c3 ?n_c4 ?n_c5 ?n_c6 ?n_c7 ?n_c8 ?n_cE ?xc0 ?sac0 ?exc0 ?tyc0 ?kpc0 ?nvc0 ?gac0 ?ggc0 ?hdc0 ?hac0 ?hmc0 ?vSc0 ?qcc0 ?aic0 ?uc0c1 ?nec0c1 ?uc0c2 ?nec0c2 ?uc0c3 ?nec0c3 ?uc0c4 ?nec0c4 ?uc0c5 ?nec0c5 ?uc0c6 ?nec0c6 ?uc0c7 ?nec0c7 ?uc0c8 ?nec0c8 ?uc0cE ?xc1 ?sac1 ?exc1 ?tyc1 ?kpc1 ?nvc1 ?gac1 ?ggc1 ?hdc1 ?hac1 ?hmc1 ?vSc1 ?qcc1 ?aic1 ?uc1c0 ?nec1c0 ?uc1c2 ?nec1c2 ?uc1c3 ?nec1c3 ?uc1c4 ?nec1c4 ?uc1c5 ?nec1c5 ?uc1c6 ?nec1c6 ?uc1c7 ?nec1c7 ?uc1c8 ?nec1c8 ?uc1cE ?xc2 ?sac2 ?exc2 ?tyc2 ?kpc2 ?nvc2 ?gac2 ?ggc2 ?hdc2 ?hac2 ?hmc2 ?vSc2 ?qcc2 ?aic2 ?uc2c0 ?nec2c0 ?uc2c1 ?nec2c1 ?uc2c3 ?nec2c3 ?uc2c4 ?nec2c4 ?uc2c5 ?nec2c5 ?uc2c6 ?nec2c6 ?uc2c7 ?nec2c7 ?uc2c8 ?nec2c8 ?uc2cE ?xc3 ?sac3 ?exc3 ?tyc3 ?kpc3 ?nvc3 ?gac3 ?ggc3 ?hdc3 ?hac3 ?hmc3 ?vSc3 ?qcc3 ?aic3 ?uc3c0 ?nec3c0 ?uc3c1 ?nec3c1 ?uc3c2 ?nec3c2 ?uc3c4 ?nec3c4 ?uc3c5 ?nec3c5 ?uc3c6 ?nec3c6 ?uc3c7 ?nec3c7 ?uc3c8 ?nec3c8 ?uc3cE ?xc4 ?sac4 ?exc4 ?tyc4 ?kpc4 ?nvc4 ?gac4 ?ggc4 ?hdc4 ?hac4 ?hmc4 ?vSc4 ?qcc4 ?aic4 ?uc4c0 ?nec4c0 ?uc4c1 ?nec4c1 ?uc4c2 ?nec4c2 ?uc4c3 ?nec4c3 ?uc4c5 ?nec4c5 ?uc4c6 ?nec4c6 ?uc4c7 ?nec4c7 ?uc4c8 ?nec4c8 ?uc4cE ?xc5 ?sac5 ?exc5 ?tyc5 ?kpc5 ?nvc5 ?gac5 ?ggc5 ?hdc5 ?hac5 ?hmc5 ?vSc5 ?qcc5 ?aic5 ?uc5c0 ?nec5c0 ?uc5c1 ?nec5c1 ?uc5c2 ?nec5c2 ?uc5c3 ?nec5c3 ?uc5c4 ?nec5c4 ?uc5c6 ?nec5c6 ?uc5c7 ?nec5c7 ?uc5c8 ?nec5c8 ?uc5cE ?xc6 ?sac6 ?exc6 ?tyc6 ?kpc6 ?nvc6 ?gac6 ?ggc6 ?hdc6 ?hac6 ?hmc6 ?vSc6 ?qcc6 ?aic6 ?uc6c0 ?nec6c0 ?uc6c1 ?nec6c1 ?uc6c2 ?nec6c2 ?uc6c3 ?nec6c3 ?uc6c4 ?nec6c4 ?uc6c5 ?nec6c5 ?uc6c7 ?nec6c7 ?uc6c8 ?nec6c8 ?uc6cE ?xc7 ?sac7 ?exc7 ?tyc7 ?kpc7 ?nvc7 ?gac7 ?ggc7 ?hdc7 ?hac7 ?hmc7 ?vSc7 ?qcc7 ?aic7 ?uc7c0 ?nec7c0 ?uc7c1 ?nec7c1 ?uc7c2 ?nec7c2 ?uc7c3 ?nec7c3 ?uc7c4 ?nec7c4 ?uc7c5 ?nec7c5 ?uc7c6 ?nec7c6 ?uc7c8 ?nec7c8 ?uc7cE ?xc8 ?sac8 ?exc8 ?tyc8 ?kpc8 ?nvc8 ?gac8 ?ggc8 ?hdc8 ?hac8 ?hmc8 ?vSc8 ?qcc8 ?aic8 ?uc8c0 ?nec8c0 ?uc8c1 ?nec8c1 ?uc8c2 ?nec8c2 ?uc8c3 ?nec8c3 ?uc8c4 ?nec8c4 ?uc8c5 ?nec8c5 ?uc8c6 ?nec8c6 ?uc8c7 ?nec8c7 ?uc8cE ?xcE ?sacE ?excE ?tycE ?kpcE ?nvcE ?gacE ?ggcE ?hdcE ?hacE ?hmcE ?vScE ?qccE ?aicE ?ucEc0 ?necEc0 ?ucEc1 ?necEc1 ?ucEc2 ?necEc2 ?ucEc3 ?necEc3 ?ucEc4 ?necEc4 ?ucEc5 ?necEc5 ?ucEc6 ?necEc6 ?ucEc7 ?necEc7 ?ucEc8 ?necEc8 ?hn ?htk ?t20 ?l20 ?c20 ?k20
    (case n_c0 => k_is)
    (case n_c1 => k_is)
    (case n_c2 => k_is)
    (case n_c3 => k_is)
    (case n_c4 => k_is)
    (case n_c5 => k_is)
    (case n_c6 => k_is)
    (case n_c7 => k_is)
    (case n_c8 => k_is)
    (case n_cE => k_is)
    (case aic0 => k_is)
    (case aic1 => k_is)
    (case aic2 => k_is)
    (case aic3 => k_is)
    (case aic4 => k_is)
    (case aic5 => k_is)
    (case aic6 => k_is)
    (case aic7 => k_is)
    (case aic8 => k_is)
    (case aicE => k_is)
    (case a26 => k_is)
    (case l26 => k_is)
    (case c26 => k_is)
    (case k26 => k_is)
    (case a27 => k_is)
    (case l27 => k_is)
    (case c27 => k_is)
    (case k27 => k_is)
    (case a15 => k_is)
    (case l15 => k_is)
    (case c15 => k_is)
    (case k15 => k_is)
    (case a16 => k_is)
    (case l16 => k_is)
    (case c16 => k_is)
    (case k16 => k_is)
    (case a10 => k_is)
    (case l10 => k_is)
    (case c10 => k_is)
    (case k10 => k_is)
    (case a11 => k_is)
    (case l11 => k_is)
    (case c11 => k_is)
    (case k11 => k_is)
    (case z_len => k_is)
    (case z_max => k_is)
    (case z_min => k_is)
    (case z_abs => k_is)
    (case z_int => k_is)
    (case z_range => k_is)
    (case z_isinstance => k_is)
    (case z_repr => k_is)
    (case z_ValueError => k_is)
    (case z_enumerate => k_is)
    (case xc0 => k_is)
    (case sac0 => k_is)
    (case exc0 => k_is)
    (case tyc0 => k_is)
    (case kpc0 => k_is)
    (case nvc0 => k_is)
    (case gac0 => k_is)
    (case ggc0 => k_is)
    (case hdc0 => k_is)
    (case hac0 => k_is)
    (case hmc0 => k_is)
    (case vSc0 => k_is)
    (case qcc0 => k_is)
    (case uc0c1 => k_is)
    (case nec0c1 => decide)
    (case uc0c2 => k_is)
    (case nec0c2 => decide)
    (case uc0c3 => k_is)
    (case nec0c3 => decide)
    (case uc0c4 => k_is)
    (case nec0c4 => decide)
    (case uc0c5 => k_is)
    (case nec0c5 => decide)
    (case uc0c6 => k_is)
    (case nec0c6 => decide)
    (case uc0c7 => k_is)
    (case nec0c7 => decide)
    (case uc0c8 => k_is)
    (case nec0c8 => decide)
    (case uc0cE => k_is)
    (case xc1 => k_is)
    (case sac1 => k_is)
    (case exc1 => k_is)
    (case tyc1 => k_is)
    (case kpc1 => k_is)
    (case nvc1 => k_is)
    (case gac1 => k_is)
    (case ggc1 => k_is)
    (case hdc1 => k_is)
    (case hac1 => k_is)
    (case hmc1 => k_is)
    (case vSc1 => k_is)
    (case qcc1 => k_is)
    (case uc1c0 => k_is)
    (case nec1c0 => decide)
    (case uc1c2 => k_is)
    (case nec1c2 => decide)
    (case uc1c3 => k_is)
    (case nec1c3 => decide)
    (case uc1c4 => k_is)
    (case nec1c4 => decide)
    (case uc1c5 => k_is)
    (case nec1c5 => decide)
    (case uc1c6 => k_is)
    (case nec1c6 => decide)
    (case uc1c7 => k_is)
    (case nec1c7 => decide)
    (case uc1c8 => k_is)
    (case nec1c8 => decide)
    (case uc1cE => k_is)
    (case xc2 => k_is)
    (case sac2 => k_is)
    (case exc2 => k_is)
    (case tyc2 => k_is)
    (case kpc2 => k_is)
    (case nvc2 => k_is)
    (case gac2 => k_is)
    (case ggc2 => k_is)
    (case hdc2 => k_is)
    (case hac2 => k_is)
    (case hmc2 => k_is)
    (case vSc2 => k_is)
    (case qcc2 => k_is)
    (case uc2c0 => k_is)
    (case nec2c0 => decide)
    (case uc2c1 => k_is)
    (case nec2c1 => decide)
    (case uc2c3 => k_is)
    (case nec2c3 => decide)
    (case uc2c4 => k_is)
    (case nec2c4 => decide)
    (case uc2c5 => k_is)
    (case nec2c5 => decide)
    (case uc2c6 => k_is)
    (case nec2c6 => decide)
    (case uc2c7 => k_is)
    (case nec2c7 => decide)
    (case uc2c8 => k_is)
    (case nec2c8 => decide)
    (case uc2cE => k_is)
    (case xc3 => k_is)
    (case sac3 => k_is)
    (case exc3 => k_is)
    (case tyc3 => k_is)
    (case kpc3 => k_is)
    (case nvc3 => k_is)
    (case gac3 => k_is)
    (case ggc3 => k_is)
    (case hdc3 => k_is)
    (case hac3 => k_is)
    (case hmc3 => k_is)
    (case vSc3 => k_is)
    (case qcc3 => k_is)
    (case uc3c0 => k_is)
    (case nec3c0 => decide)
    (case uc3c1 => k_is)
    (case nec3c1 => decide)
    (case uc3c2 => k_is)
    (case nec3c2 => decide)
    (case uc3c4 => k_is)
    (case nec3c4 => decide)
    (case uc3c5 => k_is)
    (case nec3c5 => decide)
    (case uc3c6 => k_is)
    (case nec3c6 => decide)
    (case uc3c7 => k_is)
    (case nec3c7 => decide)
    (case uc3c8 => k_is)
    (case nec3c8 => decide)
    (case uc3cE => k_is)
    (case xc4 => k_is)
    (case sac4 => k_is)
    (case exc4 => k_is)
    (case tyc4 => k_is)
    (case kpc4 => k_is)
    (case nvc4 => k_is)
    (case gac4 => k_is)
    (case ggc4 => k_is)
    (case hdc4 => k_is)
    (case hac4 => k_is)
    (case hmc4 => k_is)
    (case vSc4 => k_is)
    (case qcc4 => k_is)
    (case uc4c0 => k_is)
    (case nec4c0 => decide)
    (case uc4c1 => k_is)
    (case nec4c1 => decide)
    (case uc4c2 => k_is)
    (case nec4c2 => decide)
    (case uc4c3 => k_is)
    (case nec4c3 => decide)
    (case uc4c5 => k_is)
    (case nec4c5 => decide)
    (case uc4c6 => k_is)
    (case nec4c6 => decide)
    (case uc4c7 => k_is)
    (case nec4c7 => decide)
    (case uc4c8 => k_is)
    (case nec4c8 => decide)
    (case uc4cE => k_is)
    (case xc5 => k_is)
    (case sac5 => k_is)
    (case exc5 => k_is)
    (case tyc5 => k_is)
    (case kpc5 => k_is)
    (case nvc5 => k_is)
    (case gac5 => k_is)
    (case ggc5 => k_is)
    (case hdc5 => k_is)
    (case hac5 => k_is)
    (case hmc5 => k_is)
    (case vSc5 => k_is)
    (case qcc5 => k_is)
    (case uc5c0 => k_is)
    (case nec5c0 => decide)
    (case uc5c1 => k_is)
    (case nec5c1 => decide)
    (case uc5c2 => k_is)
    (case nec5c2 => decide)
    (case uc5c3 => k_is)
    (case nec5c3 => decide)
    (case uc5c4 => k_is)
    (case nec5c4 => decide)
    (case uc5c6 => k_is)
    (case nec5c6 => decide)
    (case uc5c7 => k_is)
    (case nec5c7 => decide)
    (case uc5c8 => k_is)
    (case nec5c8 => decide)
    (case uc5cE => k_is)
    (case xc6 => k_is)
    (case sac6 => k_is)
    (case exc6 => k_is)
    (case tyc6 => k_is)
    (case kpc6 => k_is)
    (case nvc6 => k_is)
    (case gac6 => k_is)
    (case ggc6 => k_is)
    (case hdc6 => k_is)
    (case hac6 => k_is)
    (case hmc6 => k_is)
    (case vSc6 => k_is)
    (case qcc6 => k_is)
    (case uc6c0 => k_is)
    (case nec6c0 => decide)
    (case uc6c1 => k_is)
    (case nec6c1 => decide)
    (case uc6c2 => k_is)
    (case nec6c2 => decide)
    (case uc6c3 => k_is)
    (case nec6c3 => decide)
    (case uc6c4 => k_is)
    (case nec6c4 => decide)
    (case uc6c5 => k_is)
    (case nec6c5 => decide)
    (case uc6c7 => k_is)
    (case nec6c7 => decide)
    (case uc6c8 => k_is)
    (case nec6c8 => decide)
    (case uc6cE => k_is)
    (case xc7 => k_is)
    (case sac7 => k_is)
    (case exc7 => k_is)
    (case tyc7 => k_is)
    (case kpc7 => k_is)
    (case nvc7 => k_is)
    (case gac7 => k_is)
    (case ggc7 => k_is)
    (case hdc7 => k_is)
    (case hac7 => k_is)
    (case hmc7 => k_is)
    (case vSc7 => k_is)
    (case qcc7 => k_is)
    (case uc7c0 => k_is)
    (case nec7c0 => decide)
    (case uc7c1 => k_is)
    (case nec7c1 => decide)
    (case uc7c2 => k_is)
    (case nec7c2 => decide)
    (case uc7c3 => k_is)
    (case nec7c3 => decide)
    (case uc7c4 => k_is)
    (case nec7c4 => decide)
    (case uc7c5 => k_is)
    (case nec7c5 => decide)
    (case uc7c6 => k_is)
    (case nec7c6 => decide)
    (case uc7c8 => k_is)
    (case nec7c8 => decide)
    (case uc7cE => k_is)
    (case xc8 => k_is)
    (case sac8 => k_is)
    (case exc8 => k_is)
    (case tyc8 => k_is)
    (case kpc8 => k_is)
    (case nvc8 => k_is)
    (case gac8 => k_is)
    (case ggc8 => k_is)
    (case hdc8 => k_is)
    (case hac8 => k_is)
    (case hmc8 => k_is)
    (case vSc8 => k_is)
    (case qcc8 => k_is)
    (case uc8c0 => k_is)
    (case nec8c0 => decide)
    (case uc8c1 => k_is)
    (case nec8c1 => decide)
    (case uc8c2 => k_is)
    (case nec8c2 => decide)
    (case uc8c3 => k_is)
    (case nec8c3 => decide)
    (case uc8c4 => k_is)
    (case nec8c4 => decide)
    (case uc8c5 => k_is)
    (case nec8c5 => decide)
    (case uc8c6 => k_is)
    (case nec8c6 => decide)
    (case uc8c7 => k_is)
    (case nec8c7 => decide)
    (case uc8cE => k_is)
    (case xcE => k_is)
    (case sacE => k_is)
    (case excE => k_is)
    (case tycE => k_is)
    (case kpcE => k_is)
    (case nvcE => k_is)
    (case gacE => k_is)
    (case ggcE => k_is)
    (case hdcE => k_is)
    (case hacE => k_is)
    (case hmcE => k_is)
    (case vScE => k_is)
    (case qccE => k_is)
    (case ucEc0 => k_is)
    (case necEc0 => decide)
    (case ucEc1 => k_is)
    (case necEc1 => decide)
    (case ucEc2 => k_is)
    (case necEc2 => decide)
    (case ucEc3 => k_is)
    (case necEc3 => decide)
    (case ucEc4 => k_is)
    (case necEc4 => decide)
    (case ucEc5 => k_is)
    (case necEc5 => decide)
    (case ucEc6 => k_is)
    (case necEc6 => decide)
    (case ucEc7 => k_is)
    (case necEc7 => decide)
    (case ucEc8 => k_is)
    (case necEc8 => decide)
    (case hn => k_is)
    (case htk => k_is)
    (case t20 => k_is)
    (case l20 => k_is)
    (case c20 => k_is)
    (case k20 => k_is)
