import PyProof.Rows.All
import Wide.All
import OpenK.AllK
import Wide.FinOn
import PySem.Challenge.RW_wordhulls_k08_errors_of_readings
import HandS.ForMost
import HandS.Exc
import HandS.TryOnly
import HandS.ExcOwn
import HandS.WordsExc
import HandS.OwnEq
import HandS.Property
import HandS.MakeKw
import HandS.IsInst
import HandS.SetKeys
import HandS.ExcInit
import HandS.Wide
import HandS.Walk
import HandS.Steps
import PyProof.InstNe
import PyProof.ReprLen
import HandS.ExcField
import HandS.ExcIs
import HandS.HotCalls
import HandS.StrMore
import HandS.RevRange
set_option Elab.async false
set_option linter.all false
set_option maxRecDepth 100000
namespace WH
open PySem PySem.Spec PyProof.Rows L2
/-! a power of an int of less than a hundred thousand bits -/
def CPowW (i j : Int) : Prop := 0 ≤ j ∧ j ≤ 100 ∧ i.natAbs.log2 < 1000000
theorem CPowW.ok {i j : Int} (h : CPowW i j) : (Builtin.Int.intBits i : Int) * j ≤ 2 ^ 27 := by
  obtain ⟨h1, h2, h3⟩ := h
  have b : Builtin.Int.intBits i ≤ i.natAbs.log2 + 1 := by
    unfold Builtin.Int.intBits
    split <;> omega
  have e : (2 : Int) ^ 27 = 134217728 := by decide
  rw [e]
  have b2 : (Builtin.Int.intBits i : Int) ≤ 1000000 := by omega
  have := Int.mul_le_mul b2 h2 h1 (by decide)
  omega
theorem op_powW {X : Cx} : OpR X (binaryOp .Pow) (rI CPowW fun i j => .int (i ^ j.toNat)) := opI fun _ _ _ _ _ _ _ hc q => pow_int hc.1 hc.ok q
theorem log2_small {i : Int} {n : Nat} (h0 : 0 ≤ i) (h : i < 2 ^ n) (hn : n ≤ 1000000) (hp : 0 < n) : i.natAbs.log2 < 1000000 := by
  have : i.natAbs < 2 ^ n := by
    have e : ((2 ^ n : Nat) : Int) = (2 : Int) ^ n := by simp
    omega
  exact Nat.lt_of_lt_of_le (PySem.Flt.log2_lt_of hp this) hn
end WH
namespace WH
open PySem PySem.Spec PyProof.Rows L2
abbrev Sl := List (Option V)
theorem same_upd {H : Hp} {p : Addr} {o : HO} (h : H p = none) : Same H (upd H p o) := fun b x e => by
  rw [upd_ne (ne_of_none e h)]
  exact e
theorem same_set {H H1 : Hp} {p : Addr} {o : HO} (s : Same H H1) (h : H p = none) : Same H (upd H1 p o) := fun b x e => by
  rw [upd_ne (ne_of_none e h)]
  exact s b x e
/-- what a comprehension gives: f i (none: left out) for the turns ahead of i -/
def fmr (f : Nat → Option V) (i : Nat) : List V := (List.range i).filterMap f
theorem fmr_succ (f : Nat → Option V) (i : Nat) : fmr f (i + 1) = fmr f i ++ (f i).toList := by
  unfold fmr
  rw [List.range_succ, List.filterMap_append]
  cases h : f i <;> simp [h]
theorem fmr_len (f : Nat → Option V) (i : Nat) : (fmr f i).length ≤ i := by
  unfold fmr
  exact Nat.le_trans (List.length_filterMap_le _ _) (by rw [List.length_range]; exact Nat.le_refl _)
/-- a comprehension whose turns change nothing that stood -/
theorem lc_fm {J : It} {n : Nat} {G : Hp → Prop} {Y : Nat → Hp → V → Hp → Prop} (w : Walk J n G Y) {g : TG} {tt : TT} {te : TE} {vs : List Nat} {σ : Sl} {H1 : Hp} {D : Addr} {Qd : Hp → Prop}
    (f : Nat → Option V) (hn : n < sizeLine) (hD : H1 D = none) (hG : ∀ H, Same H1 H → G H)
    (hs : ∀ i x H H' (N : Option V → Hp → Prop), i < n → Same H1 H → Y i H x H' → (∀ H4, Same H H4 → N (f i) H4) → g x (wipe σ vs) H' fun σ2 H2 => wipe σ2 vs = wipe σ vs ∧ tt σ2 H2 fun b H3 =>
      if b = true then te σ2 H3 fun y H4 => N (some y) H4 else N none H3)
    (hd : ∀ H, Same H1 H → H D = some (.lst (fmr f n)) → Qd H) :
    ∃ W : Nat → Nat → Hp → Prop, (∃ m, W 0 m (upd H1 D (.lst []))) ∧ ∀ i m H, W i m H →
      (J.stop i H ∧ Qd H) ∨ (J.go i H ∧ ∃ Nx : Hp → Prop, (∀ H', Nx H' → ∃ m', m' < m ∧ W (i + 1) m' H') ∧ ∀ x H', J.yld i H x H' → g x (wipe σ vs) H' fun σ2 H2 => wipe σ2 vs = wipe σ vs ∧ tt σ2 H2 fun b H3 =>
        if b = true then te σ2 H3 fun y H4 => ∃ acc, H4 D = some (.lst acc) ∧ acc.length < sizeLine ∧ Nx (upd H4 D (.lst (acc ++ [y]))) else Nx H3) := by
  refine lc_it w (fun i H => Same H1 H ∧ H D = some (.lst (fmr f i))) ⟨same_upd hD, upd_same⟩ (fun i H _ p => hG H p.1) ?_ (fun H p => hd H p.1 p.2)
  rintro i x H H' hi ⟨s, hd'⟩ hy
  refine hs i x H H' (fun o H4 => match o with
    | some y => ∃ acc, H4 D = some (.lst acc) ∧ acc.length < sizeLine ∧ (Same H1 (upd H4 D (.lst (acc ++ [y]))) ∧ (upd H4 D (.lst (acc ++ [y]))) D = some (.lst (fmr f (i + 1))))
    | none => Same H1 H4 ∧ H4 D = some (.lst (fmr f (i + 1)))) hi s hy fun H4 s4 => ?_
  rw [fmr_succ]
  cases f i with
  | none => exact ⟨s.trans s4, by rw [s4 _ _ hd']; simp⟩
  | some y => exact ⟨_, s4 _ _ hd', Nat.lt_of_le_of_lt (fmr_len f i) (by omega), same_set (s.trans s4) hD, upd_same⟩
/-- all turns keep: the list by a map -/
theorem fmr_map (f : Nat → V) (n : Nat) : fmr (fun i => some (f i)) n = (List.range n).map f := by
  unfold fmr
  rw [← List.filterMap_eq_map]
  rfl
theorem range_map_getD (xs : List V) (F : V → V) : (List.range xs.length).map (fun i => F (xs.getD i .non)) = xs.map F := by
  apply List.ext_getElem
  · simp
  · intro i h1 h2
    simp at h1 h2
    simp [List.getD, h2]
theorem fmr_list (xs : List V) (F : V → Option V) : fmr (fun i => F (xs.getD i .non)) xs.length = xs.filterMap F := by
  unfold fmr
  have : (List.range xs.length).map (fun i => xs.getD i .non) = xs := by
    have := range_map_getD xs (fun v => v)
    simpa using this
  calc (List.range xs.length).filterMap (fun i => F (xs.getD i .non)) = ((List.range xs.length).map (fun i => xs.getD i .non)).filterMap F := by rw [List.filterMap_map]; rfl
    _ = xs.filterMap F := by rw [this]
theorem yesT {σ : Sl} {H : Hp} {A B : Hp → Prop} (h : A H) : tYes σ H (fun b H3 => if b = true then A H3 else B H3) := by
  show (if true = true then A H else B H)
  rw [if_pos rfl]
  exact h
/-- between two statements: what the first one leaves -/
theorem seq_mid {t1 t2 : TS} {D : Ends} {σ : Sl} {H : Hp} (R : Sl → Hp → Prop) (h1 : ∀ N : Sl → Hp → Prop, (∀ σ' H', R σ' H' → N σ' H') → t1 { D with nx := N } σ H) (h2 : ∀ σ' H', R σ' H' → t2 D σ' H') : tSeq t1 t2 D σ H := h1 _ h2
/-! ### the letters -/
def LET : Str := "abcdefghijklmnopqrstuvwxyz"
def isL (z : Str) : Bool := z.cps.toList.all fun c => decide (c ∈ LET.cps.toList)
def isW (z : Str) : Bool := decide (1 ≤ z.length) && decide (z.length ≤ 8) && isL z
theorem getD_at {z : Str} {i c : Nat} (hi : i < z.cps.size) (hc : z.cps[i]? = some c) : z.cps.getD i 0 = c := by
  simp [Array.getD, hi, Array.getElem?_eq_getElem hi] at hc ⊢
  exact hc
theorem fmr_isL (z : Str) : (fmr (fun i => some (.bl (decide (z.cps.getD i 0 ∈ LET.cps.toList)))) z.cps.size) = (z.cps.toList.map fun c => decide (c ∈ LET.cps.toList)).map V.bl := by
  rw [fmr_map]
  apply List.ext_getElem
  · simp
  · intro i h1 h2
    simp at h1 h2
    simp [Array.getD, h2]
theorem all_isL (z : Str) : (z.cps.toList.map fun c => decide (c ∈ LET.cps.toList)).all id = isL z := by
  unfold isL
  rw [List.all_map]
  rfl
end WH
set_option maxHeartbeats 2000000
namespace WH
open PySem PySem.Spec PyProof.Rows L2 PySem.W PySem.Calls
/-- what the written part says of a class with an own == and without an own != -/
structure EqCls (K : PySem.W.Frag) (C f : Addr) : Prop where
  cls : ∃ nm q N bs sn sub ab col dd k0 k1 k2 k3 k5, K.lookup C = some (excClassObj nm q C N bs [.type "object"] true sn sub ab col dd k0 k1 k2 k3 k5 "object.__new__")
  eq : findIn K (.ref C) "__eq__" = some (some (.ref f))
  ne : findIn K (.ref C) "__ne__" = some (some (.builtin "object.__ne__"))
  fn : isFn K (.ref f) = true
section
variable {prog : Program} {w : World} {A : Around} {E : Value → Shared → Prop} {K : PySem.W.Frag} {C x f L : Addr} {b tb : Value} {h₀ : Heap} {s : Shared} {m : Str → Option Value} {ox : Obj} {od : Option Obj}
theorem ifBoundB_K {M : Model} {name : Str} {id : String} {args : List Value} {Q : Option Value → Shared → Prop} (X : K.In s.heap) (I : InstAt s.heap x ox C od) (hs : findIn K (.ref C) name = some (some (.builtin id))) {B : String} (S : Slot B name id)
    (h : wpAny M A (call (.builtin id) (.ref x :: args)) (fun v => Q (some v)) E s) : wpAny M A (callSpecialIfBound? (.ref x) name args) Q E s := by
  simp only [callSpecialIfBound?, bindSpecialIfBound?]
  refine wpAny_holding (wpAny_bind (wpAny_bind (wpAny_bind (I.type.here ((looks_findIn X hs).here ?_)))))
  simp only [S.bind]
  refine wpAny_bind (wpAny_askSetting (wpAny_ite ?_))
  have fin : wpAny M A (call (.builtin id) ([.ref x] ++ args) >>= fun v => pure (some v)) Q E s := wpAny_bind (wpAny_mono h (fun v s' h' => wpAny_pure h') fun _ _ h' => h')
  split
  · exact wpAny_bind (wpAny_pure (wpAny_pure fin))
  · exact wpAny_tryCatch (wpAny_bind (wpAny_pure (wpAny_pure fin)))
theorem objNe_K {Q : Fin → Shared → Prop} (X : K.In s.heap) (I : InstAt s.heap x ox C od) (T : EqCls K C f) (hu : A.units < cLine)
    (h : wpAny (model prog w) A (call (.ref f) [.ref x, b]) (fun v s' => ∃ r, v = .bool r ∧ Q (.done (.ret (.bool (!r)))) s') E s) :
    wpAny (model prog w) A (Builtin.«object.__ne__» ⟨[.ref x, b], []⟩) Q E s := by
  unfold Builtin.«object.__ne__»
  repeat (first
    | with_reducible refine wpAny_cRoomFor hu ?_
    | (refine wpAny_bind (m := callSpecialIfBound? (.ref x) (Str.ofString "__eq__") [b])
        (ifBound_K X I T.eq T.fn (wpAny_mono h (fun r s' hr => by
          obtain ⟨r, rfl, hq⟩ := hr
          repeat (first | exact hq | exact wpAny_pure hq | exact wpAny_truthy_bool hq | (refine wpAny_bind (m := truthy (.bool _)) (wpAny_truthy_bool ?_)) | wp_step)) fun _ _ e => e)))
    | wp_step)
theorem ne_K {Q : Value → Shared → Prop} (hu : A.units + 1 < cLine) (X : K.In s.heap) (I : InstAt s.heap x ox C od) (hb : Looks (model prog w) s.heap (typeOf b) tb) (hn : notFirst K C tb = true) (T : EqCls K C f)
    (h : wpAny (model prog w) A.in1 (call (.ref f) [.ref x, b]) (fun v s' => ∃ r, v = .bool r ∧ Q (.bool (!r)) s') E s) : wpAny (model prog w) A (richCompare .NotEq (.ref x) b) Q E s := by
  obtain ⟨nm, q, N, bs, sn, sub, ab, col, dd, k0, k1, k2, k3, k5, hC⟩ := T.cls
  have one : wpAny (model prog w) A (tryCompare (.ref x) "__ne__" b) (fun r s' => ∃ v, r = some v ∧ Q v s') E s := by
    unfold tryCompare
    refine wpAny_bind (ifBoundB_K X I T.ne F.cmp_object.ne (wpAny_call (codeAny_call_builtin F.cmp_object.ne.plain F.cmpEntry_ne
      (wpAny_check_slot_inst F.cmpKind_ne F.cmpSplit_ne (F.cmpArgs_ne _ _) F.cmp_object.hasObject I.at_ I.cls (X _ _ hC)
        (objNe_K (A := A.in1) X I T hu (wpAny_mono h (fun v s' hv => ?_) fun _ _ e => e))))))
    obtain ⟨r, rfl, hq⟩ := hv
    first | exact ⟨r, rfl, wpAny_pure ⟨_, rfl, hq⟩⟩ | exact ⟨r, rfl, wpAny_pure (wpAny_pure ⟨_, rfl, hq⟩)⟩ 
  unfold richCompare
  simp only [oneThing_ref]
  refine wpAny_holding (wpAny_bind (wpAny_cRoomFor (Nat.lt_of_succ_lt hu) ?_))
  refine wpAny_bind (I.type.here (wpAny_bind (hb.here ?_)))
  split
  · rename_i q
    have e : subIn K tb (.ref C) = some false := by
      rcases Bool.or_eq_true_iff.mp hn with e | e
      · rw [beq_iff_eq.mp e] at q; simp at q
      · exact beq_iff_eq.mp e
    refine wpAny_bind ((looks_subIn X e).here ?_)
    simp only [Bool.false_eq_true, if_false]
    refine wpAny_bind (wpAny_mono one (fun r s' z => ?_) fun _ _ e => e)
    obtain ⟨v, rfl, hq⟩ := z
    exact wpAny_pure hq
  · refine wpAny_bind (wpAny_pure ?_)
    simp only [Bool.false_eq_true, if_false]
    refine wpAny_bind (wpAny_mono one (fun r s' z => ?_) fun _ _ e => e)
    obtain ⟨v, rfl, hq⟩ := z
    exact wpAny_pure hq
end
/-! own == and != with either answer, by the promise of __eq__ -/
def rOwn (K : PySem.W.Frag) (C : Addr) (sp : Sp) (E : XK) (neg : Bool) : R2 := fun x y H Q => ∃ a dx fs t, x = .ref a ∧ H a = some (.ins C dx fs) ∧ TyX K H y t ∧ notFirst K C t = true ∧
  sp [x, y] H (fun v H' => ∃ r, v = .bl r ∧ Q (.bl (if neg = true then !r else r)) H') E
section
variable {X : Cx} {n : Nat} {CX : CXT} {C f : Addr} {fd : FuncData} {ps : List Str} {sp : Sp} {E : XK}
theorem own_call (F : FnOk X.prog X.w X.K X.mg X.base CX n f fd ps sp) (hb : Binds X.K fd ps []) (hx : Passes CX X E) {A : Around} (sb : Sub X n A) {pins : List (Addr × Obj)} {σ : Sl} {H : Hp} {s : Shared} {x y : V} {u v : Value} {Q : VK}
    (I : Inv X pins σ H s) (rx : RelV x u) (ry : RelV y v) (h : sp [x, y] H Q E) : wpAny (model X.prog X.w) A (PySem.call (.ref f) [u, v]) (EP X pins σ Q) X.xe s := by
  have e0 : Env0 X.prog X.w X.K X.mg X.base A X.stack s H := by
    have e := I.env0
    exact ⟨by rw [sb.fr]; exact e.frames, e.mod, e.bs, e.bsz, e.funs, e.frf, e.hok, e.bare⟩
  have hl := F.len _ _ _ _ h
  have r2 : Vals [x, y] [u, v] := .cons rx (.cons ry .nil)
  refine wpAny_call (codeAny_mono (F.run A X.stack s H ⟨[u, v], []⟩ [u, v] [x, y] _ E sb.room e0 (by
    have := hb s [u, v] I.kIn (by simpa using hl)
    simpa using this) r2 h) fun r s' hq => ?_)
  cases r with
  | error e => exact hx pins σ H s e s' I hq
  | ok fl =>
    cases fl with
    | ret w => exact I.after hq
    | next => exact False.elim hq
    | brk => exact False.elim hq
    | cont => exact False.elim hq
theorem op_eqOwn (T : EqCls X.K C f) (F : FnOk X.prog X.w X.K X.mg X.base CX n f fd ps sp) (hb : Binds X.K fd ps []) (hx : Passes CX X E) (hr : Room n X.A) : OpR X (compareOp .Eq) (rOwn X.K C sp E false) := by
  intro pins s σ H x y v u Q I rx ry hq
  obtain ⟨a, dx, fs, t, rfl, ha, ty, hn, q⟩ := hq
  cases rx
  obtain ⟨mA, J, _⟩ := ins_get I.hok ha
  obtain ⟨od, J, _⟩ := J.look
  obtain ⟨m, hF⟩ := I.fr
  obtain ⟨Pk, kx, hp, _⟩ := kit_of I ry ty
  show wpAny (model X.prog X.w) X.A (richCompare .Eq _ u) (EP X pins σ Q) X.xe s
  refine PySem.W.cmp_K (op := .Eq) (tb := t) hr.units0 hF I.ok.mod.kin J (kx.ty _ _ I.kIn hp) hn T.eq T.fn ?_
  refine wpAny_mono (own_call (x := .ref a) F hb hx ⟨hr, rfl⟩ I (show RelV (.ref a) (.ref a) from rfl) ry q) (fun r s' z => ?_) fun _ _ x => x
  obtain ⟨z, H', I', rz, b, rfl, ez⟩ := z
  cases rz
  exact ⟨.bl b, H', I', rfl, ez⟩
theorem op_neOwn (T : EqCls X.K C f) (F : FnOk X.prog X.w X.K X.mg X.base CX n f fd ps sp) (hb : Binds X.K fd ps []) (hx : Passes CX X E) (hr : Room (n + 1) X.A) : OpR X (compareOp .NotEq) (rOwn X.K C sp E true) := by
  intro pins s σ H x y v u Q I rx ry hq
  obtain ⟨a, dx, fs, t, rfl, ha, ty, hn, q⟩ := hq
  cases rx
  obtain ⟨mA, J, _⟩ := ins_get I.hok ha
  obtain ⟨od, J, _⟩ := J.look
  obtain ⟨Pk, kx, hp, _⟩ := kit_of I ry ty
  show wpAny (model X.prog X.w) X.A (richCompare .NotEq _ u) (EP X pins σ Q) X.xe s
  refine ne_K (hu_of (k := n + 1) hr) I.kIn J (kx.ty _ _ I.kIn hp) hn T ?_
  refine wpAny_mono (own_call (x := .ref a) F hb hx (Sub.in1 ⟨hr, rfl⟩) I (show RelV (.ref a) (.ref a) from rfl) ry q) (fun r s' z => ?_) fun _ _ x => x
  obtain ⟨z, H', I', rz, b, rfl, ez⟩ := z
  cases rz
  exact ⟨b, rfl, .bl (!b), H', I', rfl, ez⟩
end
end WH
namespace WH
open PySem PySem.Spec PyProof.Rows L2
/-! texts in lists and tuples, as data -/
def dStrs (ws : List Str) : List PyData := ws.map PyData.str
theorem eqvAll_strs : ∀ a b : List Str, PyData.eqvAll (dStrs a) (dStrs b) = decide (a = b)
  | [], [] => by simp [dStrs, PyData.eqvAll]
  | [], _ :: _ => by simp [dStrs, PyData.eqvAll]
  | _ :: _, [] => by simp [dStrs, PyData.eqvAll]
  | x :: a, y :: b => by
    have ih := eqvAll_strs a b
    unfold dStrs at ih ⊢
    rw [List.map_cons, List.map_cons]
    simp only [PyData.eqvAll, PyData.eqv, ih]
    by_cases h : x = y <;> by_cases h2 : a = b <;> simp [h, h2]
def SOk (a : List Str) : Prop := ∀ x ∈ a, PyData.strOk x = true
theorem canLay_strs : ∀ a : List Str, SOk a → PyData.canLayAll0 (dStrs a) = true
  | [], _ => by simp [dStrs, PyData.canLayAll0]
  | x :: a, h => by
    have ih := canLay_strs a fun y hy => h y (List.mem_cons_of_mem _ hy)
    unfold dStrs at ih ⊢
    rw [List.map_cons]
    simp only [PyData.canLayAll0, PyData.canLay0, ih, h x List.mem_cons_self, Bool.and_self]
theorem depth_strs : ∀ a : List Str, PyData.depthAll (dStrs a) ≤ 1
  | [] => by simp [dStrs, PyData.depthAll]
  | x :: a => by
    have ih := depth_strs a
    unfold dStrs at ih ⊢
    rw [List.map_cons]
    simp only [PyData.depthAll, PyData.depth]
    omega
theorem dpAll_strs {K : PySem.W.Frag} {H : Hp} : ∀ a : List Str, DpAll K H (a.map V.str) (dStrs a)
  | [] => .nil
  | x :: a => .cons (.str x) (dpAll_strs a)
theorem dp_lst {K : PySem.W.Frag} {H : Hp} {a : Addr} {ws : List Str} (h : SqL K H a (ws.map V.str)) : Dp K H (.ref a) (.list (dStrs ws)) := .lst h (dpAll_strs ws)
theorem dp_tup {K : PySem.W.Frag} {H : Hp} {a : Addr} {ws : List Str} (h : SqT K H a (ws.map V.str)) : Dp K H (.ref a) (.tuple (dStrs ws)) := .tup h (dpAll_strs ws)
theorem sh_lst {ws : List Str} (h : SOk ws) : SeqAt.shaped (.list (dStrs ws)) = true := by
  unfold SeqAt.shaped
  have := depth_strs ws
  simp only [PyData.canLay0, canLay_strs ws h, PyData.depth, Bool.true_and]
  exact decide_eq_true (by omega)
theorem sh_tup {ws : List Str} (h : SOk ws) : SeqAt.shaped (.tuple (dStrs ws)) = true := by
  unfold SeqAt.shaped
  have := depth_strs ws
  simp only [PyData.canLay0, canLay_strs ws h, PyData.depth, Bool.true_and]
  exact decide_eq_true (by omega)
theorem eqv_lst (a b : List Str) : PyData.eqv (.list (dStrs a)) (.list (dStrs b)) = decide (a = b) := by
  simp only [PyData.eqv]
  exact eqvAll_strs a b
theorem eqv_tup (a b : List Str) : PyData.eqv (.tuple (dStrs a)) (.tuple (dStrs b)) = decide (a = b) := by
  simp only [PyData.eqv]
  exact eqvAll_strs a b
theorem let_small : ∀ c ∈ LET.cps.toList, c < 123 := by decide +kernel
theorem sok_isL {x : Str} (h : isL x = true) : PyData.strOk x = true := by
  unfold PyData.strOk
  unfold isL at h
  rw [← Array.all_toList]
  rw [List.all_eq_true] at h ⊢
  intro c hc
  have h1 := let_small c (of_decide_eq_true (h c hc))
  exact decide_eq_true (by omega)
theorem sok_isW {x : Str} (h : isW x = true) : PyData.strOk x = true := by
  unfold isW at h
  simp only [Bool.and_eq_true] at h
  exact sok_isL h.2
/-! lists of lists of texts -/
def dLol (l : List (List Str)) : List PyData := l.map fun ws => PyData.list (dStrs ws)
theorem eqvAll_lol : ∀ a b : List (List Str), PyData.eqvAll (dLol a) (dLol b) = decide (a = b)
  | [], [] => by simp [dLol, PyData.eqvAll]
  | [], _ :: _ => by simp [dLol, PyData.eqvAll]
  | _ :: _, [] => by simp [dLol, PyData.eqvAll]
  | x :: a, y :: b => by
    have ih := eqvAll_lol a b
    unfold dLol at ih ⊢
    rw [List.map_cons, List.map_cons]
    simp only [PyData.eqvAll, eqv_lst, ih]
    by_cases h : x = y <;> by_cases h2 : a = b <;> simp [h, h2]
theorem canLay_lol : ∀ a : List (List Str), (∀ x ∈ a, SOk x) → PyData.canLayAll0 (dLol a) = true
  | [], _ => by simp [dLol, PyData.canLayAll0]
  | x :: a, h => by
    have ih := canLay_lol a fun y hy => h y (List.mem_cons_of_mem _ hy)
    unfold dLol at ih ⊢
    rw [List.map_cons]
    simp only [PyData.canLayAll0, PyData.canLay0, canLay_strs x (h x List.mem_cons_self), ih, Bool.and_self]
theorem depth_lol : ∀ a : List (List Str), PyData.depthAll (dLol a) ≤ 3
  | [] => by simp [dLol, PyData.depthAll]
  | x :: a => by
    have ih := depth_lol a
    have h2 := depth_strs x
    unfold dLol at ih ⊢
    rw [List.map_cons]
    simp only [PyData.depthAll, PyData.depth]
    omega
theorem sh_lol {l : List (List Str)} (h : ∀ x ∈ l, SOk x) : SeqAt.shaped (.list (dLol l)) = true := by
  unfold SeqAt.shaped
  have := depth_lol l
  simp only [PyData.canLay0, canLay_lol l h, PyData.depth, Bool.true_and]
  exact decide_eq_true (by omega)
theorem eqv_lol (a b : List (List Str)) : PyData.eqv (.list (dLol a)) (.list (dLol b)) = decide (a = b) := by
  simp only [PyData.eqv]
  exact eqvAll_lol a b
/-! in -/
theorem inV_strs (x : Str) (ws : List Str) : inV (.str x) (ws.map V.str) = decide (x ∈ ws) := by
  unfold inV
  rw [List.any_map]
  induction ws with
  | nil => simp
  | cons y r ih =>
    rw [List.any_cons, ih]
    have e : ((fun y => eqV y (V.str x)) ∘ V.str) y = decide (y = x) := by
      show eqV (V.str y) (V.str x) = _
      simp only [eqV]
      by_cases h : y = x <;> simp [h]
    rw [e]
    by_cases h : y = x <;> by_cases h2 : x ∈ r <;> simp [h, h2, eq_comm]
    all_goals (first | exact fun z => h z.symm | skip)
theorem flat_strs (ws : List Str) : (ws.map V.str).all flatV = true := by
  rw [List.all_map, List.all_eq_true]
  intro x _
  rfl
def fSel (q : Str → Bool) : V → Option V
  | .str z => if q z = true then some (.str z) else none
  | _ => none
theorem fSel_yes {q : Str → Bool} {z : Str} (h : q z = true) : fSel q (.str z) = some (.str z) := if_pos h
theorem fSel_no {q : Str → Bool} {z : Str} (h : q z = false) : fSel q (.str z) = none := if_neg (by simp [h])
theorem fmap_filter (ws : List Str) (q : Str → Bool) : (ws.map V.str).filterMap (fSel q) = (ws.filter q).map V.str := by
  induction ws with
  | nil => rfl
  | cons y r ih =>
    rw [List.map_cons, List.filterMap_cons]
    by_cases h : q y = true
    · simp [h, ih, fSel]
    · simp [h, ih, fSel]
section
variable {X : Cx} {CX : CXT} {k : Nat} {f : Addr} {fd : FuncData} {ps ks : List Str} {sp : Sp} {E : XK} {x : Str} {p pos : Pos} {kws : List Keyword} {tk : TA} {g : List Value → List Value → List Value} {gV : List V → List V → List V}
/-- f(k = v, ..) -/
theorem pe_callK0 (F : FnOk X.prog X.w X.K X.mg X.base CX k f fd ps sp) (hr : Room k X.A) (hg : Gl X x) (hm : X.mg x = some (.ref f)) (hk : PySem.W.keepIn X.K (.ref f) = true) (hb : KBinds X.K fd ps ks g gV) (hx : Passes CX X E)
    (hkw : PK X kws tk) (hall : (backToKw pos (keywordEach kws X.env)).all (·.1.isSome) = true := by rfl) (hks : (backToKw pos (keywordEach kws X.env)).filterMap (·.1) = ks := by rfl)
    (hdb : (x == ("__debug__" : Str)) = false := by decide) 
    (hpl : ((backTo pos (starEach [] X.env)).any (·.1) || (backToKw pos (keywordEach kws X.env)).any (·.1.isNone)) = false := by rfl) :
    PE X (.Call (.Name x p) [] kws pos) (tCallK sp gV E tNil tk) := by
  refine ⟨fun pins s σ H Q I h => ?_⟩
  refine wpAny_Call_Name_kw (ld_glob I hg hm ?_ hdb)
  refine PySem.W.callWith_KW0 (h₀ := X.base) I.ok.mod.kin hk hall ?_ hpl
  refine thn (hkw.run pos pins s σ H _ I h) fun ws s2 ⟨zs, H2, I2, rz, q2⟩ => ⟨I2.kIn, ?_⟩
  rw [hks]
  exact run_fnk (us := []) (vs := []) F hr hb hx I2 .nil rz q2
end
/-- how keywords bind -/
theorem kbinds_of {K : PySem.W.Frag} {x qual : Str} {st : Stmt} {f : Addr} {fd : FuncData} {ps ks : List Str} (F : Fun K x qual st f fd) (g : List Value → List Value → List Value) (gV : List V → List V → List V)
    (hrel : ∀ {vs : List V} {us : List Value} {zs : List V} {ws : List Value}, Vals vs us → Vals zs ws → Vals (gV vs zs) (g us ws))
    (h : ∀ (kV doc pm : Value) (an : Option Addr) (cdv ct : Value) (us ws : List Value), (g us ws).length = ps.length → bindArgs (PySem.W.fnOf x qual (defArgs st) (defBody st) (defScope st) .none kV doc pm an cdv ct) ⟨us, ks.zip ws⟩ = pure (ps.zip (g us ws))) : KBinds K fd ps ks g gV := by
  obtain ⟨oc, od, kV, doc, pm, an, cdv, ct, osl, rfl, lk, hcd⟩ := F.ex
  exact ⟨fun s us ws _ hl => .of_eq (h kV doc pm an cdv ct us ws hl), hrel⟩
/-- C(k = v): how it binds behind the instance -/
theorem kbn_words {K : PySem.W.Frag} {x qual : Str} {st : Stmt} {f : Addr} {fd : FuncData} {ps ks : List Str} (F : Fun K x qual st f fd)
    (h : ∀ (kV doc pm : Value) (an : Option Addr) (cdv ct : Value) (us ws : List Value), us.length = 1 → ws.length = ks.length → bindArgs (PySem.W.fnOf x qual (defArgs st) (defBody st) (defScope st) .none kV doc pm an cdv ct) ⟨us, ks.zip ws⟩ = pure (ps.zip (us ++ ws))) :
    KBn K fd ps 1 ks (fun us ws => us ++ ws) (fun us ws => us ++ ws) := by
  obtain ⟨oc, od, kV, doc, pm, an, cdv, ct, osl, rfl, lk, hcd⟩ := F.ex
  exact ⟨fun s us ws _ l1 l2 => .of_eq (h kV doc pm an cdv ct us ws l1 l2), fun r1 r2 => r1.append r2⟩
/-- two keywords, the second one first -/
def gTurn {α : Type} : List α → List α → List α
  | [], [a, b] => [b, a]
  | _, _ => []
theorem gTurn_rel {vs : List V} {us : List Value} {zs : List V} {ws : List Value} (h1 : Vals vs us) (h2 : Vals zs ws) : Vals (gTurn vs zs) (gTurn us ws) := by
  cases h1 with
  | nil =>
    cases h2 with
    | nil => exact .nil
    | cons a h2 =>
      cases h2 with
      | nil => exact .nil
      | cons b h2 =>
        cases h2 with
        | nil => exact .cons b (.cons a .nil)
        | cons c h2 => exact .nil
  | cons a h1 =>
    exact .nil
/-! texts run together -/
def catS (ys : List Str) : Str := ⟨((ys.map fun y => y.cps.toList).flatten).toArray⟩
theorem catS_list (ys : List Str) : (catS ys).cps.toList = (ys.map fun y => y.cps.toList).flatten := rfl
theorem glue_fold (e : Array Nat) (he : e = #[]) : ∀ (ps : List Str) (a : Array Nat), (ps.foldl (fun acc p => acc ++ e ++ p.cps) a).toList = a.toList ++ (ps.map fun y => y.cps.toList).flatten
  | [], a => by simp
  | p :: ps, a => by
    rw [List.foldl_cons, glue_fold e he ps]
    subst he
    simp
theorem join_cat {sep : Str} (hs : sep.cps = #[]) (ys : List Str) : Txt.join sep ys = catS ys := by
  apply ext_toList
  rw [catS_list]
  unfold Txt.join Builtin.Str.glued
  show ((ys.drop 1).foldl (fun acc p => acc ++ sep.cps ++ p.cps) (ys.headD Str.empty).cps).toList = _
  rw [glue_fold _ hs]
  cases ys with
  | nil => rfl
  | cons y r => simp
theorem catS_len (ys : List Str) : (catS ys).length = (ys.map (·.length)).sum := by
  show (catS ys).cps.size = _
  rw [← Array.length_toList, catS_list, List.length_flatten, List.map_map]
  rfl
theorem sum_ones (us : List Str) (h : ∀ u ∈ us, ∃ c, u = ⟨#[c]⟩) : (us.map (·.length)).sum = us.length := by
  induction us with
  | nil => rfl
  | cons u r ih =>
    obtain ⟨c, hc⟩ := h u List.mem_cons_self
    rw [List.map_cons, List.sum_cons, ih fun v hv => h v (List.mem_cons_of_mem _ hv), hc, List.length_cons]
    show 1 + r.length = r.length + 1
    omega
/-! cuts of texts -/
theorem cut_hi (z : Str) {c : Int} (h : 0 ≤ c) : (cutS z none (some c)).cps.toList = z.cps.toList.take c.toNat := by
  have e : c = (c.toNat : Int) := by omega
  unfold cutS
  rw [e, HT.sIx_nat, HT.sIx_none]
  show (z.cps.toList.drop 0).take (min c.toNat z.length - 0) = _
  rw [List.drop_zero, Nat.sub_zero]
  have : z.length = z.cps.toList.length := by simp [Str.length]
  rw [this, ← List.take_eq_take_min]
  rfl
theorem cut_lo (z : Str) {c : Int} (h : 0 ≤ c) : (cutS z (some c) none).cps.toList = z.cps.toList.drop c.toNat := by
  have e : c = (c.toNat : Int) := by omega
  unfold cutS
  rw [e, HT.sIx_nat, HT.sIx_none]
  have hz : z.length = z.cps.toList.length := by simp [Str.length]
  show (z.cps.toList.drop (min c.toNat z.length)).take (z.length - min c.toNat z.length) = z.cps.toList.drop c.toNat
  by_cases hc : c.toNat ≤ z.length
  · rw [Nat.min_eq_left hc, hz, List.take_of_length_le (by rw [List.length_drop]; omega)]
  · rw [Nat.min_eq_right (by omega), hz, List.drop_of_length_le (Nat.le_refl _), List.drop_of_length_le (by omega)]
    simp
theorem len_list (z : Str) : z.length = z.cps.toList.length := by simp [Str.length]
theorem isL_iff {z : Str} : isL z = true ↔ ∀ c ∈ z.cps.toList, c ∈ LET.cps.toList := by
  unfold isL
  rw [List.all_eq_true]
  exact ⟨fun h c hc => of_decide_eq_true (h c hc), fun h c hc => decide_eq_true (h c hc)⟩
theorem isL_app {a b : Str} (h1 : isL a = true) (h2 : isL b = true) : isL (a ++ b) = true := by
  rw [isL_iff] at h1 h2 ⊢
  intro c hc
  rw [Str.cps_append, Array.toList_append] at hc
  rcases List.mem_append.mp hc with h | h
  · exact h1 c h
  · exact h2 c h
theorem isL_hi {z : Str} {c : Int} (h0 : 0 ≤ c) (h : isL z = true) : isL (cutS z none (some c)) = true := by
  rw [isL_iff] at h ⊢
  intro x hx
  rw [cut_hi z h0] at hx
  exact h x (List.mem_of_mem_take hx)
theorem isL_lo {z : Str} {c : Int} (h0 : 0 ≤ c) (h : isL z = true) : isL (cutS z (some c) none) = true := by
  rw [isL_iff] at h ⊢
  intro x hx
  rw [cut_lo z h0] at hx
  exact h x (List.mem_of_mem_drop hx)
theorem len_app (a b : Str) : (a ++ b).length = a.length + b.length := Str.length_append a b
theorem len_hi {z : Str} {c : Int} (h0 : 0 ≤ c) : (cutS z none (some c)).length = min c.toNat z.length := by
  rw [len_list, cut_hi z h0, List.length_take, ← len_list]
theorem len_lo {z : Str} {c : Int} (h0 : 0 ≤ c) : (cutS z (some c) none).length = z.length - c.toNat := by
  rw [len_list, cut_lo z h0, List.length_drop, ← len_list]
/-- an item of a written list of texts -/
theorem at_strs {ss : List Str} {e : Int} (h0 : 0 ≤ e) (h : e < (ss.length : Int)) : ∃ s, atI (ss.map V.str) e = some (.str s) ∧ s ∈ ss ∧ ss[e.toNat]? = some s := by
  have hl : e.toNat < ss.length := by omega
  refine ⟨ss[e.toNat], ?_, List.getElem_mem hl, List.getElem?_eq_getElem hl⟩
  have e1 : (e.toNat : Int) = e := by omega
  have := atI_nat (xs := ss.map V.str) (j := e.toNat) (v := .str ss[e.toNat]) (by simp [hl])
  rwa [e1] at this
end WH
namespace WH
open PySem PySem.Spec PyProof.Rows L2
/-- a comprehension (no test) whose elements are new lists -/
theorem lc_refs' {J : It} {n : Nat} {G : Hp → Prop} {Y : Nat → Hp → V → Hp → Prop} (w : Walk J n G Y) {i0 : Nat} {te : TE} {vs : List Nat} {σ : Sl} {H1 : Hp} {D : Addr} {Qd : Hp → Prop}
    (c : Nat → List V) (hn : n < sizeLine) (hD : H1 D = none) (hG : ∀ H, Same H1 H → G H) (hw : ∀ x, wipe ((wipe σ vs).set i0 (some x)) vs = wipe σ vs)
    (hs : ∀ i x H H' (N : V → Hp → Prop), i < n → Same H1 H → Y i H x H' → (∀ l H4, H l = none → Same H H4 → H4 l = some (.lst (c i)) → N (.ref l) H4) → te ((wipe σ vs).set i0 (some x)) H' N)
    (hd : ∀ (ls : List Addr) H, Same H1 H → H D = some (.lst (ls.map V.ref)) → ls.length = n → (∀ (j : Nat) (l : Addr), ls[j]? = some l → H l = some (.lst (c j))) → Qd H) :
    ∃ W : Nat → Nat → Hp → Prop, (∃ m, W 0 m (upd H1 D (.lst []))) ∧ ∀ i m H, W i m H →
      (J.stop i H ∧ Qd H) ∨ (J.go i H ∧ ∃ Nx : Hp → Prop, (∀ H', Nx H' → ∃ m', m' < m ∧ W (i + 1) m' H') ∧ ∀ x H', J.yld i H x H' → gName i0 x (wipe σ vs) H' fun σ2 H2 => wipe σ2 vs = wipe σ vs ∧ tYes σ2 H2 fun b H3 =>
        if b = true then te σ2 H3 fun y H4 => ∃ acc, H4 D = some (.lst acc) ∧ acc.length < sizeLine ∧ Nx (upd H4 D (.lst (acc ++ [y]))) else Nx H3) := by
  refine lc_it w (fun i H => ∃ ls : List Addr, ls.length = i ∧ H D = some (.lst (ls.map V.ref)) ∧ (∀ (j : Nat) (l : Addr), ls[j]? = some l → l ≠ D ∧ H l = some (.lst (c j))) ∧ Same H1 H) ⟨[], rfl, upd_same, fun j l h => by simp at h, same_upd hD⟩ (fun i H _ p => hG H p.choose_spec.2.2.2) ?_ ?_
  · rintro i x H H' hi ⟨ls, hl, h1, h2, s⟩ hy
    refine ⟨hw x, yesT ?_⟩
    refine hs i x H H' _ hi s hy fun l H4 nl s4 h4 => ?_
    have nlD : l ≠ D := by
      intro z
      subst z
      rw [h1] at nl
      cases nl
    refine ⟨ls.map V.ref, s4 _ _ h1, ?_, ls ++ [l], by simp [hl], ?_, fun j m hj => ?_, same_set (s.trans s4) hD⟩
    · rw [List.length_map]
      omega
    · rw [upd_same]
      simp
    · by_cases hji : j < ls.length
      · rw [List.getElem?_append_left hji] at hj
        obtain ⟨a1, a2⟩ := h2 j m hj
        exact ⟨a1, by rw [upd_ne a1]; exact s4 _ _ a2⟩
      · have hj2 : j = ls.length := by
          have := (List.getElem?_eq_some_iff.mp hj).1
          rw [List.length_append] at this
          simp at this
          omega
        subst hj2
        rw [List.getElem?_append_right (Nat.le_refl _)] at hj
        simp at hj
        subst hj
        rw [hl]
        exact ⟨nlD, by rw [upd_ne nlD]; exact h4⟩
  · rintro H ⟨ls, hl, h1, h2, s⟩
    exact hd ls H s h1 hl fun j l h => (h2 j l h).2
theorem dpAll_refs {K : PySem.W.Frag} {H : Hp} : ∀ (ls : List Addr) (wss : List (List Str)), ls.length = wss.length → (∀ (j : Nat) (l : Addr) (ws : List Str), ls[j]? = some l → wss[j]? = some ws → SqL K H l (ws.map V.str)) → DpAll K H (ls.map V.ref) (dLol wss)
  | [], [], _, _ => .nil
  | [], _ :: _, h, _ => by simp at h
  | _ :: _, [], h, _ => by simp at h
  | l :: ls, ws :: wss, h, q => .cons (dp_lst (q 0 l ws rfl rfl)) (dpAll_refs ls wss (by simpa using h) fun j l' ws' h1 h2 => q (j + 1) l' ws' (by simpa using h1) (by simpa using h2))
/-- [due] * 2 -/
theorem dp_two {K : PySem.W.Frag} {H : Hp} {a l : Addr} {ws : List Str} (h : SqL K H a [.ref l, .ref l]) (hl : SqL K H l (ws.map V.str)) : Dp K H (.ref a) (.list (dLol [ws, ws])) :=
  .lst h (.cons (dp_lst hl) (.cons (dp_lst hl) .nil))
theorem gTurn_two {α : Type} {us ws : List α} (h : (gTurn us ws).length = 2) : us = [] ∧ ∃ a b, ws = [a, b] := by
  match us, ws, h with
  | [], [a, b], _ => exact ⟨rfl, a, b, rfl⟩
/-- the same behind a plain assignment -/
theorem seq_midN {i : Nat} {v : V} {t1 t2 : TS} {D : Ends} {σ : Sl} {H : Hp} (R : Sl → Hp → Prop) (h1 : ∀ N : Sl → Hp → Prop, (∀ σ' H', R σ' H' → N σ' H') → t1 { D with nx := N } (σ.set i (some v)) H) (h2 : ∀ σ' H', R σ' H' → t2 D σ' H') : gName i v σ H (tSeq t1 t2 D) := h1 _ h2
end WH
namespace WH
open PySem PySem.Spec PyProof.Rows L2
/-! ### repr, where it is known that no repr runs around -/
def rRepr (K : PySem.W.Frag) : List V → Hp → VK → Prop := fun xs H Q => ∃ (a : Addr) (d : PyData), xs = [.ref a] ∧ Dp K H (.ref a) d ∧ d.showable = true ∧ d.hasDict = false ∧ d.depth ≤ 60 ∧ d.shown.length ≤ sizeLine ∧ Q (.str d.shown) H
theorem call_repr {X : Cx} (hG : X.A.guards = some []) (hu : X.A.units + 64 < cLine) : CallR X (.builtin "repr") (rRepr X.K) := by
  intro pins s σ H xs us Q I r h
  obtain ⟨a, d, rfl, hd, hs, hn, hp, hz, q⟩ := h
  obtain ⟨u, rfl, ru⟩ := vals1 r
  obtain rfl : u = Value.ref a := ru
  obtain ⟨as, rd⟩ := hd.reads I d (.ref a) (.ref a) rfl
  exact repr_of_reads' rd hs (PyData.noDict_hsm hn) hG (by omega) (fun _ _ e => e) (fun h' t k keep => ⟨.str d.shown, H, I.kept keep, ⟨_, rfl⟩, q⟩) hz
/-- a def that keeps its promise where no repr runs around -/
structure FnG (P : Program) (w : World) (K : PySem.W.Frag) (mg : Str → Option Value) (base : Heap) (CX : CXT) (k : Nat) (f : Addr) (fd : FuncData) (ps : List Str) (sp : Sp) : Prop where
  len : ∀ vs H Q E, sp vs H Q E → vs.length = ps.length
  run : ∀ (A : Around) (outer : List Env) (s : Shared) (H : Hp) (args : Args) (us : List Value) (vs : List V) (Q : VK) (E : XK), Room k A → A.guards = some [] → Env0 P w K mg base A outer s H → BindsTo s fd args (ps.zip us) → Vals vs us →
    sp vs H Q E → codeAny (model P w) A (.call (.ref f) args) (CR CX outer P w H s Q E) s
section
variable {P : Program} {w : World} {K : PySem.W.Frag} {mg : Str → Option Value} {base : Heap} {CX : CXT}
theorem Fun.okG {x qual : Str} {st : Stmt} {f : Addr} {fd : FuncData} {N ps : List Str} {k : Nat} {sp : Sp} (F : Fun K x qual st f fd) (S : FnScope N ps (defScope st)) (len : ∀ vs H Q E, sp vs H Q E → vs.length = ps.length)
    (hbody : ∀ (cdv : Value) (A : Around) (outer : List Env) (s : Shared) (H : Hp) (vs : List V) (Q : VK) (E : XK), Room k (A.deeper (envOfC qual (defScope st) s.heap.objs.size f cdv)) → (A.deeper (envOfC qual (defScope st) s.heap.objs.size f cdv)).guards = some [] → sp vs H Q E →
      ∃ t, PSs (cxOf CX0 P w K mg base N qual (defScope st) f cdv A outer s H E).nox (defBody st) t ∧ t { nx := fun _ H' => Q .non H', rt := Q } (start N vs) H) : FnG P w K mg base CX0 (k + 1) f fd ps sp := by
  obtain ⟨oc, od, kV, doc, pm, an, cdv, ct, osl, rfl, lk, hcd⟩ := F.ex
  refine ⟨len, fun A outer s H args us vs Q E room hG env0 bind rel want => ?_⟩
  have inK : K.In s.heap := env0.mod.kin.keeps fun b o z => (env0.bs b o z).1
  have noLim : s.heap.NoLimit := env0.mod.nolimit.keeps fun b o z => (env0.bs b o z).1
  have kinds : ∀ y ∈ ps.zip us, (defScope st).names.lookup y.1 = some .local ∨ ((defScope st).names.lookup y.1 = some .cell ∧ ((cellsFrom (s.heap.objs.size + 1) (defScope st).names []).lookup y.1).isSome = true) := by
    rintro ⟨x', v'⟩ hy
    exact (S.par x' (List.of_mem_zip hy).1).elim (fun z => .inl z) fun z => .inr ⟨z, PySem.W.cellsFrom_some _ _ _ (.inl z)⟩
  refine codeAny_call_function room.depth (inK _ _ lk) rfl S.co S.gen rfl (PySem.W.codeRec_of inK hcd) (bind _ _ _ _ ?_)
  refine wpAny_newFunctionEnv_cells S.kind kinds fun env' isEnv s2 made => ?_
  subst isEnv
  refine ⟨noLim.keeps made.toInCall.keep, codeAny_func ?_⟩
  obtain ⟨t, derived, reading⟩ := hbody cdv A outer s H vs Q E (room.deeper _) hG want
  have inv : Inv (cxOf CX0 P w K mg base N qual (defScope st) f cdv A outer s H E) [] (start N vs) H s2 := inv_start S room.hd env0 (len _ _ _ _ want) rel made
  refine wpAny_mono (derived.nox.run [] s2 (start N vs) H _ inv reading) (fun flow s3 out => ?_) fun _ _ z => z
  have back : ∀ {σ3 : Sl} {H3 : Hp} {v3 : V} {u3 : Value}, Inv (cxOf CX0 P w K mg base N qual (defScope st) f cdv A outer s H E) [] σ3 H3 s3 → RelV v3 u3 → Q v3 H3 → CE outer P w H s Q u3 s3 := fun J rv3 q3 => ⟨_, _, J.os, J.bare, J.base, J.hok, rv3, q3⟩
  match flow, out with
  | .ret u3, ⟨v3, σ3, H3, J, rv3, q3⟩ => exact back J rv3 q3
  | .next, ⟨σ3, H3, J, q3⟩ => exact back (v3 := V.non) (u3 := Value.none) J rfl q3
  | .brk, ⟨_, _, _, q3⟩ => exact q3.elim
  | .cont, ⟨_, _, _, q3⟩ => exact q3.elim
end
section
variable {X : Cx} {CX : CXT} {k : Nat} {f : Addr} {fd : FuncData} {ps : List Str} {sp : Sp} {E : XK} {x : Str} {p pos : Pos} {e : Expr} {es : List Expr} {t : TA}
/-- f(e, ..), f such a def -/
theorem pe_callG (F : FnG X.prog X.w X.K X.mg X.base CX k f fd ps sp) (hr : Room k X.A) (hG : X.A.guards = some []) (hg : Gl X x) (hm : X.mg x = some (.ref f)) (hk : PySem.W.keepIn X.K (.ref f) = true) (hb : Binds X.K fd ps []) (hx : Passes CX X E) (ha : PA X (e :: es) t)
    (hdb : (x == ("__debug__" : Str)) = false := by decide) (he : starEach (e :: es) X.env = (false, eval e X.env) :: starEach es X.env := by rfl) (hpl : (backTo pos (starEach es X.env)).any (·.1) = false := by rfl) : PE X (.Call (.Name x p) (e :: es) [] pos) (tCall sp [] E t) := by
  refine ⟨fun pins s σ H Q I h => wpAny_Call_Name_kw (ld_glob I hg hm ?_ hdb)⟩
  refine PySem.W.callWith_K (h₀ := X.base) I.ok.mod.kin hk (thn (ha.run pos pins s σ H _ I h) fun us s1 ⟨vs, H1, I1, r, q⟩ => ⟨I1.kIn, ?_⟩) he hpl
  have q0 : sp vs H1 Q E := by simpa using q
  have le : us.length = ps.length := by rw [← r.length]; exact F.len _ _ _ _ q0
  have bd : BindsTo s1 fd ⟨us, []⟩ (ps.zip us) := by simpa using hb s1 us I1.kIn (by simpa using le)
  refine wpAny_call (codeAny_mono (F.run X.A X.stack s1 H1 ⟨us, []⟩ us vs Q E hr hG I1.env0 bd r q0) fun res s2 out => ?_)
  match res, out with
  | .error _, out => exact hx pins σ H1 s1 _ s2 I1 out
  | .ok (.ret _), out => exact I1.after out
  | .ok .next, out => exact out.elim
  | .ok .brk, out => exact out.elim
  | .ok .cont, out => exact out.elim
end
/-! ### the law's call: no repr runs around it -/
section
variable {P : Program} {w : World} {K : PySem.W.Frag} {mg mb : Str → Option Value} {k : Nat} {fa a : Addr} {fd : FuncData} {x : Str} {sp : Sp} {s₁ : Shared} {vs : List Value} {ns : List Int}
/-- from a heap in which the script alone may be tracked -/
theorem law_from {H : Hp} (inK : K.In s₁.heap) (hmod : s₁.heap.Ns mainGlobals mg) (hblt : s₁.heap.Ns builtinsNs mb) (hall : ∀ x : Str, x ≠ "__name__" → mb x = bootBuiltins x) (hlim : s₁.heap.NoLimit) (gens : s₁.gens = #[])
    (ha : s₁.heap.get? a = some { cls := .type "list", data := .seq vs.toArray }) (room : Room k callerA) (F : ∀ base : Heap, K.In base → base.Ns mainGlobals mg → FnG P w K mg base CX0 k fa fd [x] sp)
    (hbind : ∀ (s : Shared) (u : Value), BindsTo s fd ⟨[u], []⟩ [(x, u)]) (only : Only H) (want : sp [.ref a] H (fun v _ => v = .bl true) fun _ _ _ => False) (hok : HOk P w H s₁.heap)
    (just : ∀ b, H b ≠ none → b = a) (free : H a ≠ none → K.lookup a = none) :
    codeAny (model P w) callerA (.call (.ref fa) ⟨[.ref a], []⟩) (fun r s' => r = .ok (.ret (.bool true)) ∧ OldK s₁.heap s'.heap ∧ s'.os = s₁.os ∧ AllBare s'.gens) s₁ := by
  have atA : ∀ {b : Addr} {u : HO}, H b = some u → b = a := fun {b u} z => just b (by rw [z]; exact Option.some_ne_none u)
  have dictFree : ∀ {b : Addr} {o : Obj} {es : Array DictEntry} {n : Nat}, s₁.heap.get? b = some o → o.data = .dict es n → H b = none := by
    intro b o es n z1 z2
    match hb : H b with
    | none => rfl
    | some u =>
      obtain rfl := atA hb
      rw [ha] at z1
      obtain rfl := Option.some.inj z1
      exact nomatch z2
  have nsUp : ∀ {b : Addr} {m : Str → Option Value}, s₁.heap.Ns b m → (hidT s₁.heap H).Ns b m := by
    rintro b m ⟨o, es, n, z1, z2, z3⟩
    exact ⟨o, es, n, hidT_get z1 (dictFree z1 z2), z2, z3⟩
  have inKb : K.In (hidT s₁.heap H) := by
    intro b o z
    refine hidT_get (inK b o z) ?_
    match hb : H b with
    | none => rfl
    | some u =>
      obtain rfl := atA hb
      rw [free (by rw [hb]; exact Option.some_ne_none u)] at z
      exact nomatch z
  obtain ⟨mc, c1, c2⟩ := hlim
  have env0 : Env0 P w K mg (hidT s₁.heap H) callerA [] s₁ H :=
    ⟨rfl, ⟨inKb, nsUp hmod, ⟨mb, nsUp hblt, hall⟩, ⟨mc, nsUp c1, c2⟩⟩, fun b o z => of_hidT z, Nat.le_of_eq (hidT_size _ _), trivial, fun b z => absurd z (by exact List.not_mem_nil), hok, .of_eq gens⟩
  refine codeAny_mono ((F _ inKb (nsUp hmod)).run callerA [] s₁ H ⟨[.ref a], []⟩ [.ref a] [.ref a] _ _ room rfl env0 (hbind s₁ (.ref a)) (.cons rfl .nil) want) fun res s2 out => ?_
  match res, out with
  | .error _, out => exact out.elim
  | .ok .next, out => exact out.elim
  | .ok .brk, out => exact out.elim
  | .ok .cont, out => exact out.elim
  | .ok (.ret u), ⟨v, H2, os2, bare2, un2, hok2, rel2, (ev : v = .bl true)⟩ =>
    subst ev
    obtain rfl : u = Value.bool true := rel2
    refine ⟨rfl, OldK.of_keep fun b o z => ?_, os2, bare2⟩
    match hb : H b with
    | none => exact un2.keep b o z hb (fun y => absurd y (by exact List.not_mem_nil)) (by exact List.not_mem_nil)
    | some u =>
      rcases only b with y | ⟨ob, xs, y⟩
      · rw [hb] at y
        exact nomatch y
      · obtain ⟨z1, _⟩ := hok b _ y
        obtain ⟨z2, _⟩ := hok2 b _ (un2.frzs b ob _ y)
        rw [z] at z1
        obtain rfl := Option.some.inj z1
        exact z2
theorem law_go (inK : K.In s₁.heap) (hmod : s₁.heap.Ns mainGlobals mg) (hblt : s₁.heap.Ns builtinsNs mb) (hall : ∀ x : Str, x ≠ "__name__" → mb x = bootBuiltins x) (hlim : s₁.heap.NoLimit) (gens : s₁.gens = #[])
    (ha : s₁.heap.get? a = some { cls := .type "list", data := .seq vs.toArray }) (hi : IntsAre vs ns) (hl : ns.length ≤ sizeLine) (room : Room k callerA) (F : ∀ base : Heap, K.In base → base.Ns mainGlobals mg → FnG P w K mg base CX0 k fa fd [x] sp)
    (hbind : ∀ (s : Shared) (u : Value), BindsTo s fd ⟨[u], []⟩ [(x, u)]) (want : ∀ H : Hp, Only H → SqL K H a (ns.map V.int) → sp [.ref a] H (fun v _ => v = .bl true) fun _ _ _ => False) :
    codeAny (model P w) callerA (.call (.ref fa) ⟨[.ref a], []⟩) (fun r s' => r = .ok (.ret (.bool true)) ∧ OldK s₁.heap s'.heap ∧ s'.os = s₁.os ∧ AllBare s'.gens) s₁ := by
  have rv := vals_ints hi
  match hk : K.lookup a with
  | some o =>
    have z := inK a o hk
    rw [ha] at z
    obtain rfl := Option.some.inj z
    refine law_from (H := fun _ => none) inK hmod hblt hall hlim gens ha room F hbind (fun _ => .inl rfl) (want _ (fun _ => .inl rfl) (.inr ⟨_, vs.toArray, _, hk, rfl, rfl, rfl, ?_, by simpa using rv⟩)) (fun b u y => nomatch y) (fun b y => absurd rfl y) fun y => absurd rfl y
    rw [List.size_toArray, hi.length]
    exact hl
  | none =>
    let H0 : Hp := fun b => if b = a then some (.frz { cls := .type "list", data := .seq vs.toArray } (.lst (ns.map V.int))) else none
    have at0 : H0 a = some (.frz { cls := .type "list", data := .seq vs.toArray } (.lst (ns.map V.int))) := if_pos rfl
    have off : ∀ {b : Addr}, b ≠ a → H0 b = none := fun n => if_neg n
    have o0 : Only H0 := fun b => by
      by_cases n : b = a
      · exact .inr ⟨_, _, if_pos n⟩
      · exact .inl (off n)
    refine law_from (H := H0) inK hmod hblt hall hlim gens ha room F hbind o0 (want H0 o0 (.inl (.inr ⟨_, at0⟩))) (fun b u y => ?_) (fun b y => ?_) fun _ => hk
    · by_cases n : b = a
      · subst n
        rw [at0] at y
        obtain rfl := Option.some.inj y
        exact ⟨ha, by rw [List.length_map]; exact hl, vs, _, rv, ha⟩
      · rw [off n] at y
        exact nomatch y
    · by_cases n : b = a
      · exact n
      · exact absurd (off n) y
end
theorem walk_G {l : PySem.W.OpenLaw} {n k : Nat} {q : Program} {loose : List Str} {XP : (Str → Option Value) → Heap → Prop} {YP : World → Heap → Prop} {d : DefRec} {K : Params → PySem.W.Frag} {sp : World → Sp} {x : Str} (hn : l.most = some n) (hn2 : n ≤ sizeLine)
    (hdf : d.params.defaults = []) (room : Room k callerA) (hY : ∀ (w : World) (h : Heap), YP w h → (K w.params).In h)
    (F : ∀ (w : World) (mg : Str → Option Value) (fa : Addr) (h : Heap), (K w.params).In h → h.Ns mainGlobals mg → mg d.name = some (.ref fa) → ∃ fd : FuncData, (∀ (s : Shared) (u : Value), BindsTo s fd ⟨[u], []⟩ [(x, u)]) ∧
      ∀ base : Heap, (K w.params).In base → base.Ns mainGlobals mg → FnG l.prog w (K w.params) mg base CX0 k fa fd [x] (sp w))
    (want : ∀ (w : World) (H : Hp) (a : Addr) (ns : List Int), ns.length ≤ n → Only H → SqL (K w.params) H a (ns.map V.int) → sp w [.ref a] H (fun v _ => v = .bl true) fun _ _ _ => False) :
    PySem.W.WalkO q loose XP YP l.row.toRowW d [] (fun f vs => PySem.call f vs) := by
  refine Att.attach_call hn hdf fun w s₀ s₁ mg mb fa o pm cd doc a vs ns G Y ho hd hcd hmg hobj hints hlen hg => ?_
  obtain ⟨fd, hb, hF⟩ := F w mg fa _ (hY w _ Y) G.T.g hmg
  exact law_go (hY w _ Y) G.T.g G.T.b G.T.builtins G.T.nolimit hg hobj hints (Nat.le_trans hlen hn2) room hF hb fun H o1 o2 => want w H a ns hlen o1 o2
end WH
namespace WH
open PySem PySem.Spec PyProof.Rows L2
/-! ### how long a repr can be -/
theorem fits2 {d : PyData} (hl : d.leavesShort 2000 = true) (hw : d.weight ≤ 8000) : d.shown.length ≤ sizeLine := by
  have h1 := PyData.shown_le 2000 (by decide) d hl
  have h2 : (2000 + 2) * d.weight ≤ 2002 * 8000 := Nat.mul_le_mul_left _ hw
  rw [sizeLine_eq]
  omega
theorem short_str {x : Str} (h : PyData.strOk x = true) : PyData.leavesShort 2000 (.str x) = true := by
  unfold PyData.strOk at h
  rw [← Array.all_toList, List.all_eq_true] at h
  simp only [PyData.leavesShort]
  rw [List.all_eq_true]
  intro c hc
  have := of_decide_eq_true (h c hc)
  exact decide_eq_true (by omega)
theorem short_strs : ∀ {ws : List Str}, SOk ws → PyData.leavesShortAll 2000 (dStrs ws) = true
  | [], _ => by simp [dStrs, PyData.leavesShortAll]
  | x :: r, h => by
    have ih := short_strs (ws := r) fun y hy => h y (List.mem_cons_of_mem _ hy)
    have hx := short_str (h x List.mem_cons_self)
    unfold dStrs at ih ⊢
    rw [List.map_cons]
    simp only [PyData.leavesShortAll, hx, ih, Bool.and_self]
theorem weight_strs (m : Nat) : ∀ {ws : List Str}, (∀ x ∈ ws, x.length ≤ m) → PyData.weightAll (dStrs ws) ≤ ws.length * (m + 2)
  | [], _ => by simp [dStrs, PyData.weightAll]
  | x :: r, h => by
    have ih := weight_strs m (ws := r) fun y hy => h y (List.mem_cons_of_mem _ hy)
    have hx : x.cps.size ≤ m := h x List.mem_cons_self
    unfold dStrs at ih ⊢
    rw [List.map_cons]
    simp only [PyData.weightAll, PyData.weight, List.length_cons, Nat.add_mul]
    omega
theorem showable_strs : ∀ {ws : List Str}, PyData.showableAll (dStrs ws) = true
  | [] => by simp [dStrs, PyData.showableAll]
  | x :: r => by
    have ih := showable_strs (ws := r)
    unfold dStrs at ih ⊢
    rw [List.map_cons]
    simp only [PyData.showableAll, PyData.showable, ih, Bool.and_self]
theorem nodict_strs : ∀ {ws : List Str}, PyData.hasDictAll (dStrs ws) = false
  | [] => by simp [dStrs, PyData.hasDictAll]
  | x :: r => by
    have ih := nodict_strs (ws := r)
    unfold dStrs at ih ⊢
    rw [List.map_cons]
    simp only [PyData.hasDictAll, PyData.hasDict, ih, Bool.or_self]
/-- what repr asks of a list of texts -/
theorem repr_strs {K : PySem.W.Frag} {H : Hp} {a : Addr} {ws : List Str} (h : SqL K H a (ws.map V.str)) (sok : SOk ws) (m : Nat) (hm : ∀ x ∈ ws, x.length ≤ m) (hw : ws.length * (m + 2) ≤ 7000) :
    Dp K H (.ref a) (.list (dStrs ws)) ∧ (PyData.list (dStrs ws)).showable = true ∧ (PyData.list (dStrs ws)).hasDict = false ∧ (PyData.list (dStrs ws)).depth ≤ 60 ∧ (PyData.list (dStrs ws)).shown.length ≤ sizeLine := by
  have hd := depth_strs ws
  have hwt := weight_strs m hm
  refine ⟨dp_lst h, by simp only [PyData.showable, showable_strs], by simp only [PyData.hasDict, nodict_strs], ?_, fits2 ?_ ?_⟩
  · simp only [PyData.depth]
    omega
  · simp only [PyData.leavesShort, short_strs sok]
  · simp only [PyData.weight]
    omega
end WH
set_option maxHeartbeats 2000000
namespace WH
open PySem PySem.Spec PyProof.Rows L2 PySem.W PySem.Calls
/-! ### isinstance of a caught error that has fields -/
section
variable {prog : Program} {w : World} {A : Around} {E : Value → Shared → Prop} {s : Shared} {K : PySem.W.Frag} {x D : Addr} {ox : Obj} {od : Option Obj}
theorem data_first {name : Str} {a g : Value} (hc : (clsIn K D).isSome = true) (ha : findIn K (.ref D) name = some (some a)) (hg : specialIn K a "__get__" = some (some g)) (ht : takesIn K a = some true) : findObj K D od name = some (.bind g a) := by
  obtain ⟨cd, hc⟩ := Option.isSome_iff_exists.mp hc
  unfold findObj
  rw [hc, Option.bind_some, ha, Option.bind_some]
  simp [hg, ht]
theorem err_class {Q : Option Value → Shared → Prop} (T : ExcC K D) (X : K.In s.heap) (I : InstAt s.heap x ox D od) (h : Q (some (.ref D)) { s with toks := s.toks + 1 }) : wpAny (model prog w) A (getAttr? (.ref x) "__class__") Q E s := by
  have hf : findObj K D od "__class__" = some (.bind (.builtin "getset_descriptor.__get__") (.builtin "object.__class__")) := data_first (by obtain ⟨cd, hc, _⟩ := any_some T.hd; rw [hc]; rfl) T.ha T.hn T.ht
  obtain ⟨hp, g, d, t, os⟩ := s
  have T0 := I.type (M := model prog w)
  have T1 := looks_findIn (M := model prog w) X T.hg
  have T2 := looks_findIn (M := model prog w) X T.hk
  have T3 := looks_find (M := model prog w) X I hf
  have isB : Looks (model prog w) hp (isInstance (.ref x) (.type "BaseException")) true := T0.andThen (looks_subIn X T.hs)
  have n0 : (false && onTheHeap (Value.builtin "BaseException.__getattribute__")) = false := rfl
  have n2 : (Value.builtin "BaseException.__getattribute__" == Value.builtin "object.__getattribute__") = false := by decide +kernel
  have n1 : (onTheHeap (Value.ref D) && Value.builtin "BaseException.__getattribute__" == Value.builtin "object.__getattribute__") = false := by rw [n2]; rfl
  unfold getAttr? getAttrBy? getAttrBy
  refine wpAny_bind (wpAny_mkText (wpAny_bind (wpAny_attempt (wpAny_holding (wpAny_bind (T0.at (wpAny_bind (T1.at ?_))))))))
  show wpAny _ _ (if (onTheHeap (Value.ref D) && Value.builtin "BaseException.__getattribute__" == Value.builtin "object.__getattribute__") = true then _ else _) _ _ _
  rw [n1, if_neg Bool.false_ne_true]
  unfold getAttrByItsOwn hookBefore
  refine wpAny_bind ?_
  rw [if_pos (show onTheHeap (Value.ref D) = true from rfl)]
  refine T2.at (wpAny_bind (wpAny_attempt (wpAny_holding ?_)))
  unfold callGetattribute
  rw [n0, if_neg Bool.false_ne_true]
  unfold boundAndCalled
  rw [PySem.F.excAttr_ValueError.ga.bind (.ref x)]
  refine wpAny_bind (wpAny_pure ?_)
  show wpAny _ _ (PySem.call (.builtin "BaseException.__getattribute__") [.ref x, .str "__class__" t]) _ _ _
  refine wpAny_call (codeAny_call_builtin PySem.F.excAttr_ValueError.ga.plain PySem.F.entry_bexc_ga ?_)
  refine @check_slot (model prog w) _ _ ⟨hp, g, d, t + 1, os⟩ "BaseException.__getattribute__" "BaseException" "__getattribute__" (.ref x) [.str "__class__" t] [] _ (by decide +kernel) (by decide +kernel) isB (PySem.F.args_bexc_ga (.ref x) (.str "__class__" t)) ?_
  unfold Builtin.«object.__getattribute__»
  refine wpAny_bind (wpAny_of_eq (a := ((Value.ref x : Value), [Value.str "__class__" t])) (by first | rfl | (simp only [slotArgs]; rfl)) ?_)
  refine wpAny_bind (wpAny_pure (wpAny_bind (T0.at (wpAny_bind (T3.at ?_)))))
  show wpAny _ _ (holding [Value.builtin "object.__class__"] (PySem.call (.builtin "getset_descriptor.__get__") [.builtin "object.__class__", .ref x, .ref D]) >>= ret) _ _ _
  refine wpAny_bind (wpAny_holding (wpAny_call (class_get (s := ⟨hp, g, d, t + 1, os⟩) (ox := ox) (od := od) X I T.hm ?_)))
  refine wpAny_pure ?_
  show wpAny _ _ (handedOut (.ref D)) _ _ _
  rw [handedOut_of (v := .ref D) rfl]
  first
    | exact wpAny_pure (wpAny_pure h)
    | exact wpAny_pure h
    | exact wpAny_pure (wpAny_bind (wpAny_pure (wpAny_pure h)))
theorem err_kit (T : ExcC K D) : KitX K (.ref x) (.ref D) (fun h => InstAt h x ox D od) where
  ty := fun _ _ _ I => I.type
  it := fun M h X _ A' Q' E' s' keep q => by
    obtain ⟨cd, hcd, _⟩ := any_some T.hd
    unfold clsIn at hcd
    split at hcd
    · rename_i c1 d1 cd1 l1 hl
      unfold isType loadHead
      exact wpAny_bind (wpAny_loadPart (keep _ _ (X _ _ hl)) (wpAny_pure q))
    · exact nomatch hcd
  ne := fun h tp dd its n sl X htp => (handS_kitx_exc (x := x) (ox := ox) T.hg T.hk T.hs T.hd T.ha T.hn T.ht T.hm).ne h tp dd its n sl X htp
  ca := fun X I k => err_class T X I k
end
section
variable {X : Cx} {a : Addr} {oe : Obj} {cls : Value} {d : Option Addr} {pn : List (Addr × Obj)}
/-- the caught error at a, its class D, its own dict -/
theorem err_at {pins : List (Addr × Obj)} {s : Shared} {σ : Sl} {H : Hp} {D dd : Addr} {fs : List (Str × V)} (I : Inv (X.suite a ((a, oe) :: pn)) pins σ H s) (hz : Zc (.ref D) (some dd) oe) (hf : ∃ vs, oe.data = .fields vs) (hd : H dd = some (.xd fs)) :
    ∃ od, InstAt s.heap a oe D (some od) := by
  obtain ⟨hget, _⟩ := I.pin (a, oe) (List.mem_append.mpr (.inl List.mem_cons_self))
  obtain ⟨vs, hv⟩ := hf
  obtain ⟨mA, hns, _⟩ := (show ObjOk X.prog X.w H s.heap dd (.xd fs) from I.hok dd _ hd)
  obtain ⟨od, ho, _⟩ := lookIn_ns hns
  exact ⟨od, hget, hz.1, by unfold notCls; rw [hv] <;> rfl, by rw [hz.2]; exact ho⟩
/-- isinstance(e, c) -/
def rIsX (K : PySem.W.Frag) (a : Addr) (cls : Value) (d : Option Addr) : List V → Hp → VK → Prop := fun xs H Q => ∃ (D dd : Addr) (fs : List (Str × V)) (c : V) (cv : Value) (b : Bool), cls = .ref D ∧ d = some dd ∧ ExcC K D ∧ H dd = some (.xd fs) ∧ xs = [.ref a, c] ∧ ClsV c cv ∧ kitOne K (.ref D) cv = some b ∧ Q (.bl b) H
theorem call_isX (hz : Zc cls d oe) (hf : ∃ vs, oe.data = .fields vs) : CallR (X.suite a ((a, oe) :: pn)) (.builtin "isinstance") (rIsX X.K a cls d) := by
  intro pins s σ H xs us Q I r h
  obtain ⟨D, dd, fs, c, cv, b, rfl, rfl, T, hd, rfl, hc, e, q⟩ := h
  obtain ⟨u1, u2, rfl, r1, r2⟩ := vals2 r
  obtain rfl : u1 = Value.ref a := r1
  have ec := hc.eq r2
  subst ec
  obtain ⟨od, J⟩ := err_at I hz hf hd
  exact kia_one (err_kit T) I.kIn J e (fun z => nomatch z) fun tk => ⟨.bl b, H, I.kept (t' := tk) fun _ _ z => z, rfl, q⟩
/-- isinstance(e, (c, ..)) -/
def rIsXT (K : PySem.W.Frag) (a : Addr) (cls : Value) (d : Option Addr) : List V → Hp → VK → Prop := fun xs H Q => ∃ (D dd tp : Addr) (fs : List (Str × V)) (cs : List V) (cvs : List Value) (b : Bool), cls = .ref D ∧ d = some dd ∧ ExcC K D ∧ H dd = some (.xd fs) ∧ xs = [.ref a, .ref tp] ∧ H tp = some (.tup cs) ∧
  Paired ClsV cs cvs ∧ kitAny K (.ref D) cvs = some b ∧ Q (.bl b) H
theorem call_isXT (hz : Zc cls d oe) (hf : ∃ vs, oe.data = .fields vs) : CallR (X.suite a ((a, oe) :: pn)) (.builtin "isinstance") (rIsXT X.K a cls d) := by
  intro pins s σ H xs us Q I r h
  obtain ⟨D, dd, tp, fs, cs, cvs, b, rfl, rfl, T, hd, rfl, hT, hc, e, q⟩ := h
  obtain ⟨u1, u2, rfl, r1, r2⟩ := vals2 r
  obtain rfl : u1 = Value.ref a := r1
  obtain rfl : u2 = Value.ref tp := r2
  obtain ⟨od, J⟩ := err_at I hz hf hd
  obtain ⟨_, its, rv, o, h1, h2, n, h3⟩ := (show ObjOk X.prog X.w H s.heap tp (.tup cs) from I.hok tp _ hT)
  have e3 := ClsV.all hc rv
  subst e3
  obtain ⟨oc, oe', dt, sl⟩ := o
  simp only at h2 h3
  subst h2 h3
  exact kia_tup (err_kit T) I.kIn J h1 e (fun z => nomatch z) fun tk => ⟨.bl b, H, I.kept (t' := tk) fun _ _ z => z, rfl, q⟩
end
end WH
namespace WH
open PySem PySem.Spec PyProof.Rows L2
section
variable {X : Cx} {CX : CXT} {k : Nat} {f : Addr} {fd : FuncData} {ps ks : List Str} {sp : Sp} {E : Sl → XK} {x : Str} {p pos : Pos} {kws : List Keyword} {tk : TA} {g : List Value → List Value → List Value} {gV : List V → List V → List V}
/-- f(k = v, ..) within a try -/
def tCallKS (sp : Sp) (gV : List V → List V → List V) (E : Sl → XK) (tk : TA) : TE := fun σ H Q => tk σ H fun zs H1 => sp (gV [] zs) H1 Q (E σ)
theorem pe_callK0S (F : FnOk X.prog X.w X.K X.mg X.base CX k f fd ps sp) (hr : Room k X.A) (hg : Gl X x) (hm : X.mg x = some (.ref f)) (hk : PySem.W.keepIn X.K (.ref f) = true) (hb : KBinds X.K fd ps ks g gV) (hx : ∀ σ, PassesAt CX X σ (E σ)) (hkw : PK X kws tk)
    (hall : (backToKw pos (keywordEach kws X.env)).all (·.1.isSome) = true := by rfl) (hks : (backToKw pos (keywordEach kws X.env)).filterMap (·.1) = ks := by rfl) (hdb : (x == ("__debug__" : Str)) = false := by decide)
    (hpl : ((backTo pos (starEach [] X.env)).any (·.1) || (backToKw pos (keywordEach kws X.env)).any (·.1.isNone)) = false := by rfl) : PE X (.Call (.Name x p) [] kws pos) (tCallKS sp gV E tk) := by
  refine ⟨fun pins s σ H Q I h => wpAny_Call_Name_kw (ld_glob I hg hm ?_ hdb)⟩
  refine PySem.W.callWith_KW0 (h₀ := X.base) I.ok.mod.kin hk hall ?_ hpl
  refine thn (hkw.run pos pins s σ H _ I h) fun ws s2 ⟨zs, H2, I2, rz, q2⟩ => ⟨I2.kIn, ?_⟩
  rw [hks]
  have rel := hb.rel (vs := []) (us := []) .nil rz
  have le : (g [] ws).length = ps.length := by rw [← rel.length]; exact F.len _ _ _ _ q2
  refine wpAny_call (codeAny_mono (F.run X.A X.stack s2 H2 ⟨[], ks.zip ws⟩ (g [] ws) (gV [] zs) Q (E σ) hr I2.env0 (hb.to s2 [] ws I2.kIn le) rel q2) fun res s3 out => ?_)
  match res, out with
  | .error _, out => exact hx σ pins H2 s2 _ s3 I2 out
  | .ok (.ret _), out => exact I2.after out
  | .ok .next, out => exact out.elim
  | .ok .brk, out => exact out.elim
  | .ok .cont, out => exact out.elim
end
end WH
namespace WH
open PySem PySem.Spec PyProof.Rows L2
/-- isinstance against an own class, by subIn -/
theorem kit_ref {K : PySem.W.Frag} {D C : Addr} {b : Bool} (hc : PySem.W.isClsIn K C = true) (ht : PySem.W.typeIn K (.ref C) = some (.type "type")) (hs : PySem.W.subIn K (.ref D) (.ref C) = some b) (hn : b = true ∨ D ≠ C) : PySem.W.kitOne K (.ref D) (.ref C) = some b := by
  unfold PySem.W.kitOne
  by_cases e : D = C
  · have hb : b = true := hn.elim id fun z => absurd e z
    subst e
    rw [if_pos (by simp), hb]
  · rw [if_neg (by simp [e])]
    unfold PySem.W.kitCls
    have hc' : (PySem.W.clsIn K C).isSome = true := hc
    have h : ((PySem.W.clsIn K C).isSome && PySem.W.typeIn K (.ref C) == some (.type "type")) = true := by rw [hc', ht]; rfl
    dsimp only
    rw [if_pos h]
    exact hs
theorem kit_any {K : PySem.W.Frag} {t : Value} : ∀ {cs : List Value}, (∀ c ∈ cs, PySem.W.kitOne K t c = some false) → PySem.W.kitAny K t cs = some false
  | [], _ => rfl
  | c :: r, h => by
    unfold PySem.W.kitAny
    rw [h c List.mem_cons_self]
    exact kit_any fun x hx => h x (List.mem_cons_of_mem _ hx)
theorem kit_VE {K : PySem.W.Frag} {D : Addr} {b : Bool} (hs : PySem.W.subIn K (.ref D) (.type "ValueError") = some b) : PySem.W.kitOne K (.ref D) (.type "ValueError") = some b := by
  unfold PySem.W.kitOne PySem.W.kitCls
  rw [if_neg (by simp)]
  dsimp only
  rw [if_pos (by decide +kernel)]
  exact hs
theorem kit_self {K : PySem.W.Frag} {D : Addr} : PySem.W.kitOne K (.ref D) (.ref D) = some true := by
  unfold PySem.W.kitOne
  rw [if_pos (by simp)]
end WH
set_option maxHeartbeats 2000000
namespace WH
open PySem PySem.Spec PyProof.Rows L2 PySem.W PySem.Calls
/-! ### a def of the law that is called with the caught error, in an except suite -/
/-- what is known of the caught error's object -/
structure Got (q : Addr × Obj) (cls : Value) (d : Option Addr) : Prop where
  z : Zc cls d q.2
  f : ∃ vs, q.2.data = .fields vs
structure FnP (P : Program) (w : World) (K : PySem.W.Frag) (mg : Str → Option Value) (base : Heap) (k : Nat) (f : Addr) (fd : FuncData) (ps : List Str) (sp : Addr → Value → Option Addr → Sp) : Prop where
  len : ∀ a c d vs H Q E, sp a c d vs H Q E → vs.length = ps.length
  run : ∀ (A : Around) (outer : List Env) (s : Shared) (H : Hp) (args : Args) (us : List Value) (vs : List V) (Q : VK) (E : XK) (q : Addr × Obj) (c : Value) (d : Option Addr), Got q c d → L2H.RoomH k A → L2H.PinOk outer H s q →
    Env0 P w K mg base A outer s H → BindsTo s fd args (ps.zip us) → Vals vs us → sp q.1 c d vs H Q E → codeAny (model P w) A (.call (.ref f) args) (CR CX0 outer P w H s Q E) s
section
variable {P : Program} {w : World} {K : PySem.W.Frag} {mg : Str → Option Value} {base : Heap}
theorem Fun.okP {x qual : Str} {st : Stmt} {f : Addr} {fd : FuncData} {N ps : List Str} {k : Nat} {sp : Addr → Value → Option Addr → Sp} (F : Fun K x qual st f fd) (S : FnScope N ps (defScope st)) (len : ∀ a c d vs H Q E, sp a c d vs H Q E → vs.length = ps.length)
    (hbody : ∀ (cdv : Value) (A : Around) (outer : List Env) (s : Shared) (H : Hp) (vs : List V) (Q : VK) (E : XK) (q : Addr × Obj) (c : Value) (d : Option Addr), Got q c d → L2H.RoomH k (A.deeper (envOfC qual (defScope st) s.heap.objs.size f cdv)) → sp q.1 c d vs H Q E →
      ∃ t, PSs (L2H.cxH CX0 P w K mg base N qual (defScope st) f cdv A outer s H E q) (defBody st) t ∧ t { nx := fun _ H' => Q .non H', rt := Q } (start N vs) H) : FnP P w K mg base (k + 1) f fd ps sp := by
  obtain ⟨oc, od, kV, doc, pm, an, cdv, ct, osl, rfl, lk, hcd⟩ := F.ex
  refine ⟨len, fun A outer s H args us vs Q E q c d got room pin env0 bind rel want => ?_⟩
  have inK : K.In s.heap := env0.mod.kin.keeps fun b o z => (env0.bs b o z).1
  have noLim : s.heap.NoLimit := env0.mod.nolimit.keeps fun b o z => (env0.bs b o z).1
  have kinds : ∀ y ∈ ps.zip us, (defScope st).names.lookup y.1 = some .local ∨ ((defScope st).names.lookup y.1 = some .cell ∧ ((cellsFrom (s.heap.objs.size + 1) (defScope st).names []).lookup y.1).isSome = true) := by
    rintro ⟨x', v'⟩ hy
    exact (S.par x' (List.of_mem_zip hy).1).elim (fun z => .inl z) fun z => .inr ⟨z, PySem.W.cellsFrom_some _ _ _ (.inl z)⟩
  refine codeAny_call_function room.depth (inK _ _ lk) rfl S.co S.gen rfl (PySem.W.codeRec_of inK hcd) (bind _ _ _ _ ?_)
  refine wpAny_newFunctionEnv_cells S.kind kinds fun env' isEnv s2 made => ?_
  subst isEnv
  refine ⟨noLim.keeps made.toInCall.keep, codeAny_func ?_⟩
  obtain ⟨t, derived, reading⟩ := hbody cdv A outer s H vs Q E q c d got (room.deeper _) want
  have inv := L2H.inv_startH (CX := CX0) (E := E) S pin env0 (len _ _ _ _ _ _ _ want) rel made
  refine wpAny_mono (derived.run [] s2 (start N vs) H _ inv reading) (fun flow s3 out => ?_) fun _ _ z => z
  have back : ∀ {σ3 : Sl} {H3 : Hp} {v3 : V} {u3 : Value}, Inv (L2H.cxH CX0 P w K mg base N qual (defScope st) f cdv A outer s H E q) [] σ3 H3 s3 → RelV v3 u3 → Q v3 H3 → CE outer P w H s Q u3 s3 := fun J rv3 q3 => ⟨_, _, J.os, J.bare, J.base, J.hok, rv3, q3⟩
  match flow, out with
  | .ret u3, ⟨v3, σ3, H3, J, rv3, q3⟩ => exact back J rv3 q3
  | .next, ⟨σ3, H3, J, q3⟩ => exact back (v3 := V.non) (u3 := Value.none) J rfl q3
  | .brk, ⟨_, _, _, q3⟩ => exact q3.elim
  | .cont, ⟨_, _, _, q3⟩ => exact q3.elim
end
theorem roomH_of {k : Nat} {A : Around} (r : Room k A) (h : Option Value) : L2H.RoomH k (A.mark h) := ⟨r.dp, r.un⟩
section
variable {X : Cx} {k : Nat} {f : Addr} {fd : FuncData} {ps : List Str} {sp : Addr → Value → Option Addr → Sp} {x : Str} {p pos : Pos} {e : Expr} {es : List Expr} {t : TA} {b : Addr} {ob : Obj} {c : Value} {d : Option Addr}
/-- f(e, ..), where b's object is pinned -/
theorem pe_callP (F : FnP X.prog X.w X.K X.mg X.base k f fd ps sp) (hp : (b, ob) ∈ X.pn) (got : Got (b, ob) c d) (hr : L2H.RoomH k X.A) (hg : Gl X x) (hm : X.mg x = some (.ref f)) (hk : PySem.W.keepIn X.K (.ref f) = true) (hb : Binds X.K fd ps []) (ha : PA X (e :: es) t)
    (hdb : (x == ("__debug__" : Str)) = false := by decide) (he : starEach (e :: es) X.env = (false, eval e X.env) :: starEach es X.env := by rfl) (hpl : (backTo pos (starEach es X.env)).any (·.1) = false := by rfl) : PE X (.Call (.Name x p) (e :: es) [] pos) (tCall (sp b c d) [] E0 t) := by
  refine ⟨fun pins s σ H Q I h => wpAny_Call_Name_kw (ld_glob I hg hm ?_ hdb)⟩
  refine PySem.W.callWith_K (h₀ := X.base) I.ok.mod.kin hk (thn (ha.run pos pins s σ H _ I h) fun us s1 ⟨vs, H1, I1, r, q0⟩ => ⟨I1.kIn, ?_⟩) he hpl
  have want : sp b c d vs H1 Q E0 := by simpa using q0
  have le : us.length = ps.length := by rw [← r.length]; exact F.len _ _ _ _ _ _ _ want
  have bd : BindsTo s1 fd ⟨us, []⟩ (ps.zip us) := by simpa using hb s1 us I1.kIn (by simpa using le)
  obtain ⟨pin1, pin2, pin3, pin4, pin5⟩ := I1.pin (b, ob) (List.mem_append_left _ hp)
  have pin : L2H.PinOk X.stack H1 s1 (b, ob) := ⟨pin1, pin2, fun mem => (List.mem_cons.mp (I1.stkSub b mem)).elim pin3 pin4, pin5⟩
  refine wpAny_call (codeAny_mono (F.run X.A X.stack s1 H1 ⟨us, []⟩ us vs Q E0 (b, ob) c d got hr pin I1.env0 bd r want) fun res s2 out => ?_)
  match res, out with
  | .error _, out => exact out.elim
  | .ok (.ret _), out => exact I1.after out
  | .ok .next, out => exact out.elim
  | .ok .brk, out => exact out.elim
  | .ok .cont, out => exact out.elim
end
section
variable {X : Cx} {q : Addr × Obj} {cls : Value} {d : Option Addr}
theorem err_in {pins : List (Addr × Obj)} {s : Shared} {σ : Sl} {H : Hp} {D dd : Addr} {fs : List (Str × V)} (hp : q ∈ X.pn) (I : Inv X pins σ H s) (got : Got q (.ref D) (some dd)) (hd : H dd = some (.xd fs)) :
    ∃ od, InstAt s.heap q.1 q.2 D (some od) := by
  obtain ⟨hget, _⟩ := I.pin q (List.mem_append_left _ hp)
  obtain ⟨hz, vs, hv⟩ := got
  obtain ⟨mA, hns, _⟩ := (show ObjOk X.prog X.w H s.heap dd (.xd fs) from I.hok dd _ hd)
  obtain ⟨od, ho, _⟩ := lookIn_ns hns
  exact ⟨od, hget, hz.1, by unfold notCls; rw [hv] <;> rfl, by rw [hz.2]; exact ho⟩
theorem call_isP (hp : q ∈ X.pn) (got : Got q cls d) : CallR X (.builtin "isinstance") (rIsX X.K q.1 cls d) := by
  intro pins s σ H xs us Q I r h
  obtain ⟨D, dd, fs, c, cv, b, rfl, rfl, T, hd, rfl, hc, e, want⟩ := h
  obtain ⟨u1, u2, rfl, r1, r2⟩ := vals2 r
  obtain rfl : u1 = Value.ref q.1 := r1
  have ec := hc.eq r2
  subst ec
  obtain ⟨od, J⟩ := err_in hp I got hd
  exact kia_one (err_kit T) I.kIn J e (fun z => nomatch z) fun tk => ⟨.bl b, H, I.kept (t' := tk) fun _ _ z => z, rfl, want⟩
theorem call_isPT (hp : q ∈ X.pn) (got : Got q cls d) : CallR X (.builtin "isinstance") (rIsXT X.K q.1 cls d) := by
  intro pins s σ H xs us Q I r h
  obtain ⟨D, dd, tp, fs, cs, cvs, b, rfl, rfl, T, hd, rfl, hT, hc, e, want⟩ := h
  obtain ⟨u1, u2, rfl, r1, r2⟩ := vals2 r
  obtain rfl : u1 = Value.ref q.1 := r1
  obtain rfl : u2 = Value.ref tp := r2
  obtain ⟨od, J⟩ := err_in hp I got hd
  obtain ⟨_, its, rv, o, h1, h2, n, h3⟩ := (show ObjOk X.prog X.w H s.heap tp (.tup cs) from I.hok tp _ hT)
  have e3 := ClsV.all hc rv
  subst e3
  obtain ⟨oc, oe', dt, sl⟩ := o
  simp only at h2 h3
  subst h2 h3
  exact kia_tup (err_kit T) I.kIn J h1 e (fun z => nomatch z) fun tk => ⟨.bl b, H, I.kept (t' := tk) fun _ _ z => z, rfl, want⟩
/-- e.f of the caught error, whatever its class -/
def tXp (K : PySem.W.Frag) (a : Addr) (cls : Value) (d : Option Addr) (f : Str) (te : TE) : TE := fun σ H Q => te σ H fun x H1 => ∃ (D dd : Addr) (fs : List (Str × V)) (v : V), x = .ref a ∧ cls = .ref D ∧ d = some dd ∧ XfC K D ∧ findIn K (.ref D) f = some none ∧
  H1 dd = some (.xd fs) ∧ fs.lookup f = some v ∧ Q v H1
theorem pe_xp {e : Expr} {te : TE} {pos : Pos} {n : Str} (hp : q ∈ X.pn) (got : Got q cls d) (he : PE X e te) (hb : attributeBase e n X.env (eval e X.env) = eval e X.env := by rfl) : PE X (.Attribute e n pos) (tXp X.K q.1 cls d n te) := by
  refine ⟨fun pins s σ H Q I h => attr_of hb (thn (he.run pins s σ H _ I h) fun u s1 hh => ?_)⟩
  obtain ⟨y, H1, I1, ry, D, dd, fs, v, rfl, rfl, rfl, T, hno, ea, l, want⟩ := hh
  obtain rfl : u = Value.ref q.1 := ry
  obtain ⟨there, _⟩ := I1.pin q (List.mem_append_left _ hp)
  obtain ⟨hz, vs, hv⟩ := got
  obtain ⟨mA, hns, hr⟩ := (show ObjOk X.prog X.w H1 s1.heap dd (.xd fs) from I1.hok dd _ ea)
  obtain ⟨od, ho, hl⟩ := lookIn_ns hns
  obtain ⟨u, hu, ru⟩ := RelO.some_of (v := v) (o := mA n) (by rw [← l]; exact hr n)
  have J : InstAt s1.heap q.1 q.2 D (some od) := ⟨there, hz.1, by unfold notCls; rw [hv] <;> rfl, by rw [hz.2]; exact ho⟩
  have found := findObj_own (od := od) T.hdC hno rfl (by rw [hl, hu])
  exact HandSPX.exc_get I1.kIn J T.ga T.gg T.exC found (handed_of ru) ⟨v, H1, I1.tok _, ru, want⟩
end
end WH
namespace WH
open PySem PySem.Spec PyProof.Rows L2
def topS (i : Nat) : Stmt := PySem.Challenge.pw_wordhulls_k08_errors_of_readings.main.body.getD i (.Pass ⟨0, 0, 0, 0⟩)
abbrev sEInit : Stmt := inClass (topS 1) 0
abbrev sIsLetters : Stmt := topS 14
abbrev sIsWord : Stmt := topS 15
abbrev sCheckText : Stmt := topS 16
abbrev sSInit : Stmt := inClass (topS 19) 0
abbrev sSEq : Stmt := inClass (topS 19) 1
abbrev sSWords : Stmt := inClass (topS 19) 2
abbrev sCheckWords : Stmt := topS 20
abbrev sCheckReading : Stmt := topS 21
abbrev sJoined : Stmt := topS 22
abbrev sWaysWith : Stmt := topS 24
abbrev sAllWays : Stmt := topS 25
abbrev sCount : Stmt := topS 26
abbrev sIsText : Stmt := topS 27
abbrev sNth : Stmt := topS 28
abbrev sWordAt : Stmt := topS 29
abbrev sIndex : Stmt := topS 30
abbrev sPool : Stmt := topS 32
abbrev sDraw : Stmt := topS 33
abbrev sWord : Stmt := topS 34
abbrev sLot : Stmt := topS 35
abbrev sAllReadings : Stmt := topS 36
abbrev sRun : Stmt := topS 37
abbrev sFlagged : Stmt := topS 38
abbrev sCaught : Stmt := topS 39
abbrev sFits : Stmt := topS 40
abbrev sLaw : Stmt := topS 41
section
variable {P : Program} {w : World} {K : PySem.W.Frag} {mg : Str → Option Value} {base : Heap}
theorem scIsLetters : FnScope ["text", "sign"] ["text"] (defScope sIsLetters) := ⟨rfl, rfl, rfl, by decide +kernel, rfl, by decide +kernel, by decide +kernel⟩
def spIsLetters : Sp := fun vs H Q _ => ∃ z : Str, vs = [.str z] ∧ z.length ≤ 100000 ∧ ∀ H', Same H H' → Q (.bl (isL z)) H'
theorem ok_isLetters {f : Addr} {fd : FuncData} {k : Nat} (F : Fun K "is_letters" "is_letters" sIsLetters f fd) (mL : mg "LETTERS" = some (.str LET t)) (ma : mg "all" = none) : FnOk P w K mg base CX0 (k + 1) f fd ["text"] spIsLetters := by
  refine F.ok scIsLetters (fun vs H Q E h => ?_) (fun cdv A outer s H vs Q E hr h => ?_)
  · obtain ⟨z, rfl, _⟩ := h
    rfl
  · obtain ⟨z, rfl, hz, q⟩ := h
    refine ⟨_, pss_one (ps_ret (pe_callB (cr_all rfl) (by rfl) ma (by decide +kernel) (pa_cons
      (pe_lc (own := [("sign", 1)]) (g := gName 1) (tt := tYes) rfl scIsLetters.nd (pi_str (pv 0)) (blkOk_by (N := ["text", "sign"]) (sc := defScope sIsLetters) (by decide +kernel))
        (fun _ _ _ _ _ => pg_name (i := 1) scIsLetters.nd rfl (Or.inl rfl)) (fun _ _ _ _ _ => pts_nil)
        (fun _ _ _ _ _ => pe_cmpR op_in_sign (pv 1) (pe_glob (v := .str LET) rfl mL ⟨_, rfl⟩) rfl)) pa_nil))), ?_⟩
    refine ⟨.str z, rfl, z, rfl, fun D hD => ?_⟩
    refine lc_fm walk_str (fun i => some (.bl (decide (z.cps.getD i 0 ∈ LET.cps.toList)))) (Nat.lt_of_le_of_lt hz (by decide)) hD (fun _ _ => trivial) ?_ ?_
    · rintro i x H1 H2 N hi s1 ⟨rfl, c, hc, rfl⟩ hN
      refine ⟨rfl, ?_⟩
      refine yesT ?_
      refine ⟨_, rfl, c, LET, rfl, rfl, ?_⟩
      rw [← getD_at hi hc]
      exact hN _ (Same.refl _)
    · intro H1 s1 h1
      rw [fmr_isL] at h1
      refine ⟨D, _, rfl, SqL.of h1, ?_⟩
      rw [all_isL]
      exact q _ s1

theorem scIsWord : FnScope ["text"] ["text"] (defScope sIsWord) := ⟨rfl, rfl, rfl, by decide +kernel, rfl, by decide +kernel, by decide +kernel⟩
def spIsWord : Sp := fun vs H Q _ => ∃ z : Str, vs = [.str z] ∧ z.length ≤ 100000 ∧ ∀ H', Same H H' → Q (.bl (isW z)) H'
theorem ok_isWord {f fL : Addr} {fd fdL : FuncData} {k : Nat} {t : Tok} (F : Fun K "is_word" "is_word" sIsWord f fd) (G : FnOk P w K mg base CX0 k fL fdL ["text"] spIsLetters) (bL : Binds K fdL ["text"] []) (kL : PySem.W.keepIn K (.ref fL) = true) (gL : mg "is_letters" = some (.ref fL))
    (mM : mg "MOST_LETTERS" = some (.int 8 t)) (ml : mg "len" = none) : FnOk P w K mg base CX0 (k + 1) f fd ["text"] spIsWord := by
  refine F.ok scIsWord (fun vs H Q E h => ?_) (fun cdv A outer s H vs Q E hr h => ?_)
  · obtain ⟨z, rfl, _⟩ := h
    rfl
  · obtain ⟨z, rfl, hz, q⟩ := h
    have hs : z.length ≤ sizeLine := Nat.le_trans hz (by decide)
    refine ⟨_, pss_one (ps_ret (pe_and (pe_chain op_le op_le pe_int (pe_callB call_len_str (by rfl) ml PySem.boot_len (pa_cons (pv 0) pa_nil)) (pe_glob (v := .int 8) rfl mM ⟨_, rfl⟩))
      (pe_one (pe_call G hr (by rfl) gL kL bL .nil pass0 (pa_cons (pv 0) pa_nil))))), ?_⟩
    refine ⟨_, rfl, z, rfl, hs, _, _, rfl, rfl, _, rfl, ?_⟩
    by_cases h1 : (1 : Int) ≤ (z.length : Int)
    · rw [decide_eq_true h1]
      refine iteT ?_
      refine ⟨_, _, rfl, rfl, _, rfl, ?_⟩
      by_cases h2 : (z.length : Int) ≤ 8
      · rw [decide_eq_true h2]
        refine iteT ?_
        refine ⟨_, rfl, z, rfl, hz, fun H' s' => ?_⟩
        have e : isW z = isL z := by
          unfold isW
          rw [decide_eq_true (show 1 ≤ z.length by omega), decide_eq_true (show z.length ≤ 8 by omega)]
          rfl
        rw [← e]
        exact q _ s'
      · rw [decide_eq_false h2]
        refine iteF ?_
        have e : isW z = false := by
          unfold isW
          rw [decide_eq_false (show ¬ z.length ≤ 8 by omega)]
          simp
        rw [← e]
        exact q _ (Same.refl _)
    · rw [decide_eq_false h1]
      refine iteF ?_
      refine ⟨_, rfl, iteF ?_⟩
      have e : isW z = false := by
        unfold isW
        rw [decide_eq_false (show ¬ 1 ≤ z.length by omega)]
        simp
      rw [← e]
      exact q _ (Same.refl _)
/-- a stock's words -/
structure Good (ws : List Str) : Prop where
  w : ∀ x ∈ ws, isW x = true
  nd : ws.Nodup
  lo : 1 ≤ ws.length
  hi : ws.length ≤ 8
theorem isW_len {x : Str} (h : isW x = true) : 1 ≤ x.length ∧ x.length ≤ 8 := by
  unfold isW at h
  simp only [Bool.and_eq_true, decide_eq_true_eq] at h
  exact h.1
theorem map_at {ws : List Str} {i : Nat} {y : V} (h : (ws.map V.str)[i]? = some y) : ∃ x, ws[i]? = some x ∧ y = .str x := by
  rw [List.getElem?_map] at h
  cases e : ws[i]? with
  | none =>
    rw [e] at h
    cases h
  | some x =>
    rw [e] at h
    exact ⟨x, rfl, (Option.some.inj h).symm⟩
theorem take_snoc {α : Type} {l : List α} {i : Nat} {x : α} (h : l[i]? = some x) : l.take (i + 1) = l.take i ++ [x] := by
  rw [List.take_add_one, h]
  rfl
theorem nd_notin {ws : List Str} {i : Nat} {x : Str} (nd : ws.Nodup) (h : ws[i]? = some x) : x ∉ ws.take i := by
  intro hm
  obtain ⟨j, hj⟩ := List.mem_iff_getElem?.mp hm
  have hji : j < i := by
    have := (List.getElem?_eq_some_iff.mp hj).1
    rw [List.length_take] at this
    omega
  rw [List.getElem?_take_of_lt hji] at hj
  obtain ⟨h1, e1⟩ := List.getElem?_eq_some_iff.mp hj
  obtain ⟨h2, e2⟩ := List.getElem?_eq_some_iff.mp h
  have e3 : ws[j] ≠ ws[i] := List.pairwise_iff_getElem.mp nd j i h1 h2 hji
  exact e3 (e1.trans e2.symm)
theorem scCheckWords : FnScope ["words", "seen", "word"] ["words"] (defScope sCheckWords) := ⟨rfl, rfl, rfl, by decide +kernel, rfl, by decide +kernel, by decide +kernel⟩
def spCheckWords (K : PySem.W.Frag) : Sp := fun vs H Q _ => ∃ (a : Addr) (ws : List Str), vs = [.ref a] ∧ SqL K H a (ws.map V.str) ∧ Good ws ∧ ∀ H', Same H H' → Q .non H'
theorem ok_checkWords {f fL : Addr} {fd fdL : FuncData} {k : Nat} {t : Tok} (F : Fun K "check_words" "check_words" sCheckWords f fd) (G : FnOk P w K mg base CX0 k fL fdL ["text"] spIsWord) (bL : Binds K fdL ["text"] []) (kL : PySem.W.keepIn K (.ref fL) = true) (gL : mg "is_word" = some (.ref fL))
    (mM : mg "MOST_WORDS" = some (.int 8 t)) (ml : mg "len" = none) (mset : mg "set" = none) : FnOk P w K mg base CX0 (k + 1) f fd ["words"] (spCheckWords K) := by
  refine F.ok scCheckWords (fun vs H Q E h => ?_) (fun cdv A outer s H vs Q E hr h => ?_)
  · obtain ⟨z, ws, rfl, _⟩ := h
    rfl
  · obtain ⟨a, ws, rfl, hS, g, q⟩ := h
    refine ⟨_, pss_cons (ps_set (i := 1) scCheckWords.nd rfl (Or.inl rfl) (pe_callTy0 cr_set0K (by rfl) mset (by decide +kernel)))
      (pss_cons (ps_for PassesOwn.never rfl (pi_list (pv 0)) (pg_name (i := 2) scCheckWords.nd rfl (Or.inl rfl))
        (pss_cons (ps_if (PW.pt (pw_or (pt_not (pt_val (pe_call G hr (by rfl) gL kL bL .nil pass0 (pa_cons (pv 2) pa_nil)))) (pw_or1 (pt_cmpR or_sinK (pv 2) (pv 1) rfl)))) (pss_one ps_never) pss_nil)
          (pss_one (ps_expr (pe_saddK (pv 1) (pa_cons (pv 2) pa_nil))))))
      (pss_one (ps_if (pt_not (pt_chain op_le op_le pe_int (pe_callB call_len_seq (by rfl) ml PySem.boot_len (pa_cons (pv 0) pa_nil)) (pe_glob (v := .int 8) rfl mM ⟨_, rfl⟩))) (pss_one ps_never) pss_nil))), ?_⟩
    refine ⟨rfl, fun p np => ?_⟩
    have s1 : Same H (upd H p (SetK P w p (fun _ => false) 0)) := same_upd np
    refine ⟨_, rfl, a, rfl, ⟨_, s1.seq hS⟩, for_list (K := K) (a := a) (xs := ws.map V.str) (fun i σ H2 => ∃ (v : Option V) (S : Key → Bool) (n : Nat), σ = [some (.ref a), some (.ref p), v] ∧ Same H H2 ∧ H2 p = some (SetK P w p S n) ∧ n ≤ i ∧ ∀ x, S (.inr x) = decide (x ∈ ws.take i))
      ⟨none, fun _ => false, 0, rfl, s1, upd_same, Nat.le_refl _, fun x => by simp⟩ (fun i σ H2 _ ⟨_, _, _, _, s2, _⟩ => s2.seq hS) ?_ ?_⟩
    · rintro i y σ H2 hi ⟨v, S, n, rfl, s2, hp, hn, hSx⟩
      obtain ⟨x, hx, rfl⟩ := map_at hi
      have hil : i < ws.length := (List.getElem?_eq_some_iff.mp hx).1
      have hw := g.w x (List.mem_of_getElem? hx)
      have h8 := g.hi
      refine ⟨_, rfl, x, rfl, Nat.le_trans (isW_len hw).2 (by decide), fun H3 s3 => ⟨_, rfl, ?_⟩⟩
      rw [hw]
      refine iteF ?_
      have hp3 := s3 _ _ hp
      refine ⟨_, rfl, _, rfl, Sum.inr x, p, S, n, rfl, rfl, hp3, _, rfl, ?_⟩
      have hf : S (.inr x) = false := by
        rw [hSx]
        exact decide_eq_false (nd_notin g.nd hx)
      rw [if_neg Bool.false_ne_true, hf]
      refine iteF ?_
      refine ⟨_, rfl, ⟨p, S, n, rfl, hp3⟩, _, rfl, p, Sum.inr x, S, n, rfl, rfl, hp3, Nat.lt_of_lt_of_le (show n + 1 < 100 by omega) (by decide), ?_⟩
      refine ⟨_, _, _, rfl, same_set (s2.trans s3) np, upd_same, ?_, fun y => ?_⟩
      · rw [hf]
        simp
        omega
      · rw [take_snoc hx, hSx]
        simp
    · rintro σ H2 ⟨v, S, n, rfl, s2, _⟩
      have g1 := g.lo
      have g8 := g.hi
      refine ⟨_, rfl, a, _, rfl, .inl (s2.seq hS), _, _, rfl, rfl, _, rfl, ?_⟩
      rw [decide_eq_true (show (1 : Int) ≤ ((ws.map V.str).length : Nat) by rw [List.length_map]; omega)]
      refine iteT ?_
      refine ⟨_, _, rfl, rfl, _, rfl, ?_⟩
      rw [decide_eq_true (show (((ws.map V.str).length : Nat) : Int) ≤ 8 by rw [List.length_map]; omega)]
      refine iteF ?_
      exact q _ s2

/-! ### stocks -/
def fW (t : Addr) : List (Str × V) := putF "_words" (.ref t) []
theorem fW_get (t : Addr) : (fW t).lookup ("_words" : Str) = some (.ref t) := by
  unfold fW
  rw [lookup_putF, if_pos rfl]
def StkAt (C : Addr) (H : Hp) (p : Addr) (ws : List Str) : Prop := ∃ dx t, H p = some (.ins C dx (fW t)) ∧ H t = some (.tup (ws.map V.str))
theorem StkAt.same {C : Addr} {H H' : Hp} {p : Addr} {ws : List Str} (h : StkAt C H p ws) (s : Same H H') : StkAt C H' p ws := by
  obtain ⟨dx, t, h1, h2⟩ := h
  exact ⟨dx, t, s _ _ h1, s _ _ h2⟩
structure StkC (K : PySem.W.Frag) (mg : Str → Option Value) (C fi fe fw : Addr) : Prop where
  cl : Cls K C
  nW : NoAttr K C "_words"
  mgC : mg "Stock" = some (.ref C)
  made : Mk K C fi
  eqc : EqCls K C fe
  prop : ∃ p, PropOf K C "words" p fw
  ha : PySem.W.findIn K (.ref C) "__class__" = some (some (.builtin "object.__class__"))
  hn : PySem.W.specialIn K (.builtin "object.__class__") "__get__" = some (some (.builtin "getset_descriptor.__get__"))
  htk : PySem.W.takesIn K (.builtin "object.__class__") = some true
  hm : PySem.W.mroIn K C (.type "object") = some true
  ki : PySem.W.kitOne K (.ref C) (.ref C) = some true
theorem StkC.ty {C fi fe fw p : Addr} {H : Hp} {ws : List Str} (T : StkC K mg C fi fe fw) (h : StkAt C H p ws) : TyX K H (.ref p) (.ref C) := by
  obtain ⟨dx, t, h1, _⟩ := h
  exact .base (.ins h1 T.cl T.ha T.hn T.htk T.hm)
theorem scSInit : FnScope ["self", "words"] ["self", "words"] (defScope sSInit) := ⟨rfl, rfl, rfl, by decide +kernel, rfl, by decide +kernel, by decide +kernel⟩
def spSInit (K : PySem.W.Frag) (C : Addr) : Sp := fun vs H Q _ => ∃ (p dx a : Addr) (ws : List Str), vs = [.ref p, .ref a] ∧ H p = some (.ins C dx []) ∧ SqL K H a (ws.map V.str) ∧ Good ws ∧
  ∀ H', StkAt C H' p ws → (∀ b o, H b = some o → b ≠ p → H' b = some o) → Q .non H'
theorem ok_sinit {f fL C fi fe fw : Addr} {fd fdL : FuncData} {k : Nat} (F : Fun K "__init__" "Stock.__init__" sSInit f fd) (T : StkC K mg C fi fe fw) (G : FnOk P w K mg base CX0 k fL fdL ["words"] (spCheckWords K)) (bL : Binds K fdL ["words"] []) (kL : PySem.W.keepIn K (.ref fL) = true) (gL : mg "check_words" = some (.ref fL))
    (mt : mg "tuple" = none) : FnOk P w K mg base CX0 (k + 1) f fd ["self", "words"] (spSInit K C) := by
  refine F.ok scSInit (fun vs H Q E h => ?_) (fun cdv A outer s H vs Q E hr h => ?_)
  · obtain ⟨p, dx, a, ws, rfl, _⟩ := h
    rfl
  · obtain ⟨p, dx, a, ws, rfl, hp, hS, g, q⟩ := h
    refine ⟨_, pss_cons (ps_expr (pe_call G hr (by rfl) gL kL bL .nil pass0 (pa_cons (pv 1) pa_nil)))
      (pss_one (ps_fld (pv 0) (pe_callTy call_tuple_of (by rfl) mt (by decide +kernel) (pa_cons (pv 1) pa_nil)) rfl)), ?_⟩
    refine ⟨_, rfl, a, ws, rfl, hS, g, fun H1 s1 => ?_⟩
    refine ⟨_, rfl, a, _, rfl, .inl ⟨s1.seq hS, fun l nl => ?_⟩⟩
    have npl : p ≠ l := ne_of_none (s1 _ _ hp) nl
    refine ⟨_, rfl, p, C, dx, [], rfl, (by rw [upd_ne npl]; exact s1 _ _ hp), T.cl, T.nW, (by show 0 < 1000; decide), ?_⟩
    refine q _ ⟨dx, l, upd_same, by rw [upd_ne npl.symm, upd_same]⟩ fun b o e hb => ?_
    rw [upd_ne hb]
    exact same_set s1 (s1.free nl) b o e
theorem scSEq : FnScope ["self", "other"] ["self", "other"] (defScope sSEq) := ⟨rfl, rfl, rfl, by decide +kernel, rfl, by decide +kernel, by decide +kernel⟩
def spSEq (C : Addr) : Sp := fun vs H Q _ => ∃ (p r : Addr) (ws zs : List Str), vs = [.ref p, .ref r] ∧ StkAt C H p ws ∧ StkAt C H r zs ∧ Good ws ∧ Good zs ∧ ∀ H', Same H H' → Q (.bl (decide (ws = zs))) H'
theorem Good.sok {ws : List Str} (g : Good ws) : SOk ws := fun x hx => sok_isW (g.w x hx)
theorem ok_seq {f C fi fe fw : Addr} {fd : FuncData} {k : Nat} (F : Fun K "__eq__" "Stock.__eq__" sSEq f fd) (T : StkC K mg C fi fe fw) (mi : mg "isinstance" = none) : FnOk P w K mg base CX0 (k + 1) f fd ["self", "other"] (spSEq C) := by
  refine F.ok scSEq (fun vs H Q E h => ?_) (fun cdv A outer s H vs Q E hr h => ?_)
  · obtain ⟨p, r, ws, zs, rfl, _⟩ := h
    rfl
  · obtain ⟨p, r, ws, zs, rfl, hp, hz, g1, g2, q⟩ := h
    have ty := T.ty hz
    obtain ⟨dx, t, h1, h2⟩ := hp
    obtain ⟨dz, u, h3, h4⟩ := hz
    refine ⟨_, pss_one (ps_ret (pe_and (pe_callB call_isi (by rfl) mi (by decide +kernel) (pa_cons (pv 1) (pa_cons (pe_glob (v := .ref C) rfl T.mgC rfl) pa_nil)))
      (pe_one (pe_cmpR (op_eqD hr.units) (pe_fld (pv 0) rfl) (pe_fld (pv 1) rfl) (nomark _))))), ?_⟩
    refine ⟨_, rfl, _, _, _, _, _, rfl, .own C, ty, T.ki, _, rfl, ?_⟩
    refine iteT ?_
    refine ⟨_, rfl, p, C, dx, _, _, rfl, h1, T.cl, T.nW, fW_get _, _, rfl, r, C, dz, _, _, rfl, h3, T.cl, T.nW, fW_get _, _, _, dp_tup (SqT.of h2), dp_tup (SqT.of h4), sh_tup g1.sok, sh_tup g2.sok, ?_⟩
    rw [eqv_tup]
    exact q _ (Same.refl _)
theorem scSWords : FnScope ["self"] ["self"] (defScope sSWords) := ⟨rfl, rfl, rfl, by decide +kernel, rfl, by decide +kernel, by decide +kernel⟩
def spSWords (C : Addr) : Sp := fun vs H Q _ => ∃ (p : Addr) (ws : List Str), vs = [.ref p] ∧ StkAt C H p ws ∧ ∀ l H', H l = none → Same H H' → H' l = some (.lst (ws.map V.str)) → Q (.ref l) H'
theorem ok_swords {f C fi fe fw : Addr} {fd : FuncData} {k : Nat} (F : Fun K "words" "Stock.words" sSWords f fd) (T : StkC K mg C fi fe fw) (ml : mg "list" = none) : FnOk P w K mg base CX0 (k + 1) f fd ["self"] (spSWords C) := by
  refine F.ok scSWords (fun vs H Q E h => ?_) (fun cdv A outer s H vs Q E hr h => ?_)
  · obtain ⟨p, ws, rfl, _⟩ := h
    rfl
  · obtain ⟨p, ws, rfl, ⟨dx, t, h1, h2⟩, q⟩ := h
    refine ⟨_, pss_one (ps_ret (pe_callTy call_list_of (by rfl) ml (by decide +kernel) (pa_cons (pe_fld (pv 0) rfl) pa_nil))), ?_⟩
    refine ⟨_, rfl, p, C, dx, _, _, rfl, h1, T.cl, T.nW, fW_get _, t, _, rfl, .inr (SqT.of h2), fun l nl => ?_⟩
    exact q l _ nl (same_upd nl) upd_same
/-- Stock(ws): for the reading of pe_make -/
theorem mk_stock {C a : Addr} {ws : List Str} {H : Hp} {Q : VK} {E : XK} (hS : SqL K H a (ws.map V.str)) (g : Good ws) (q : ∀ x H', H x = none → Same H H' → StkAt C H' x ws → Q (.ref x) H') :
    ∀ x dx, H x = none → H dx = none → dx ≠ x → spSInit K C (.ref x :: ([.ref a] ++ [])) (upd (upd H dx (.own x)) x (.ins C dx [])) (fun v H2 => v = .non ∧ Q (.ref x) H2) E := by
  intro x dx nx ndx nex
  have s0 : Same H (upd (upd H dx (.own x)) x (.ins C dx [])) := same_set (same_upd ndx) nx
  exact ⟨x, dx, a, ws, rfl, upd_same, s0.seq hS, g, fun H' st kp => ⟨rfl, q x H' nx (fun b o e => kp b o (s0 b o e) (ne_of_none e nx)) st⟩⟩
end

def SameBut (p : Addr) (H H' : Hp) : Prop := ∀ b o, b ≠ p → H b = some o → H' b = some o
theorem SameBut.refl {p : Addr} {H : Hp} : SameBut p H H := fun _ _ _ h => h
theorem SameBut.trans {p : Addr} {H H1 H2 : Hp} (a : SameBut p H H1) (b : SameBut p H1 H2) : SameBut p H H2 := fun c o n h => b c o n (a c o n h)
theorem SameBut.free {p l : Addr} {H H' : Hp} (s : SameBut p H H') (n : l ≠ p) (h : H' l = none) : H l = none := by
  cases q : H l with
  | none => rfl
  | some o =>
    rw [s l o n q] at h
    cases h
theorem Same.but {p : Addr} {H H' : Hp} (s : Same H H') : SameBut p H H' := fun b o _ h => s b o h
/-- what is at the pool: three numbers, at most n drawn ones -/
def PoolAt (H : Hp) (p : Addr) (n : Int) : Prop := ∃ p0 p1 p2 : Int, H p = some (.lst [.int p0, .int p1, .int p2]) ∧ 0 ≤ p0 ∧ 0 ≤ p1 ∧ p1 < 4611686018427387904 ∧ 0 ≤ p2 ∧ p2 ≤ n
theorem PoolAt.same {H H' : Hp} {p : Addr} {n : Int} (h : PoolAt H p n) (s : Same H H') : PoolAt H' p n := by
  obtain ⟨a, b, c, h1, h2⟩ := h
  exact ⟨a, b, c, s _ _ h1, h2⟩
theorem PoolAt.le {H : Hp} {p : Addr} {n m : Int} (h : PoolAt H p n) (l : n ≤ m) : PoolAt H p m := by
  obtain ⟨a, b, c, h1, h2, h3, h4, h5, h6⟩ := h
  exact ⟨a, b, c, h1, h2, h3, h4, h5, by omega⟩
theorem atI_int {α : Type} {xs : List α} {e : Int} (h0 : 0 ≤ e) (h : e.toNat < xs.length) : atI xs e = some xs[e.toNat] := by
  have e1 : (e.toNat : Int) = e := by omega
  have := atI_nat (List.getElem?_eq_getElem h)
  rwa [e1] at this
theorem at0 {x y z : V} : atI [x, y, z] 0 = some x := atI_nat (j := 0) rfl
theorem at1 {x y z : V} : atI [x, y, z] 1 = some y := atI_nat (j := 1) rfl
theorem at2 {x y z : V} : atI [x, y, z] 2 = some z := atI_nat (j := 2) rfl
section
variable {P : Program} {w : World} {K : PySem.W.Frag} {mg : Str → Option Value} {base : Heap}
theorem scPool : FnScope ["script", "spot", "cell"] ["script", "spot"] (defScope sPool) := ⟨rfl, rfl, rfl, by decide +kernel, rfl, by decide +kernel, by decide +kernel⟩
def spPool (K : PySem.W.Frag) : Sp := fun vs H Q _ => ∃ (a : Addr) (ns : List Int) (i : Nat), vs = [.ref a, .int i] ∧ SqL K H a (ns.map V.int) ∧ i ≤ 100 ∧ ∀ p H', H p = none → Same H H' → PoolAt H' p 0 → Q (.ref p) H'
structure Bu (mg : Str → Option Value) : Prop where
  len : mg "len" = none
  max : mg "max" = none
  min : mg "min" = none
  abs : mg "abs" = none
  int : mg "int" = none
  range : mg "range" = none
theorem pool_num {x : Int} {i : Nat} (hi : i ≤ 100) : 0 ≤ x.fmod 2305843009213693951 + 7368787 * ((i : Int) + 1) ∧ x.fmod 2305843009213693951 + 7368787 * ((i : Int) + 1) < 4611686018427387904 := by
  rw [Int.fmod_eq_emod_of_nonneg _ (by decide)]
  have h1 := Int.emod_nonneg x (show (2305843009213693951 : Int) ≠ 0 by decide)
  have h2 := Int.emod_lt_of_pos x (show (0 : Int) < 2305843009213693951 by decide)
  omega
theorem ok_pool {f : Addr} {fd : FuncData} {k : Nat} (F : Fun K "_law_pool" "_law_pool" sPool f fd) (B : Bu mg) : FnOk P w K mg base CX0 (k + 1) f fd ["script", "spot"] (spPool K) := by
  refine F.ok scPool (fun vs H Q E h => ?_) (fun cdv A outer s H vs Q E hr h => ?_)
  · obtain ⟨a, ns, i, rfl, _⟩ := h
    rfl
  · obtain ⟨a, ns, i, rfl, hS, hi, q⟩ := h
    refine ⟨_, pss_cons (ps_set (i := 2) scPool.nd rfl (Or.inl rfl) pe_int)
      (pss_cons (ps_if (pt_cmpR op_lt (pv 1) (pe_callB call_len_seq (by rfl) B.len PySem.boot_len (pa_cons (pv 0) pa_nil)) (nomark _))
        (pss_one (ps_set (i := 2) scPool.nd rfl (Or.inl rfl) (pe_ix ix_list (pv 0) (pv 1) (fun _ _ => rfl)))) pss_nil)
      (pss_one (ps_ret (pe_lst (pa_cons (pe_callB (call_max2 rfl) (by rfl) B.max (by decide +kernel) (pa_cons pe_int (pa_cons (pe_op op_sub (pe_callB call_abs (by rfl) B.abs (by decide +kernel) (pa_cons (pv 2) pa_nil)) (pe_op op_pow pe_int pe_int)) pa_nil)))
        (pa_cons (pe_op op_add (pe_op op_modN (pe_callTy call_int1 (by rfl) B.int (by decide +kernel) (pa_cons (pv 2) pa_nil)) pe_int) (pe_op op_mul pe_int (pe_op op_add (pv 1) pe_int)))
        (pa_cons pe_int pa_nil))))))), ?_⟩
    have fin : ∀ x : Int, ∀ (p : Addr), H p = none → Q (.ref p) (upd H p (.lst [.int (if (if x < 0 then -x else x) - 10 ^ (18 : Int).toNat > 0 then (if x < 0 then -x else x) - 10 ^ (18 : Int).toNat else 0), .int (x.fmod 2305843009213693951 + 7368787 * ((i : Int) + 1)), .int 0])) := by
      intro x p np
      have h := pool_num (x := x) hi
      refine q p _ np (same_upd np) ⟨_, _, _, upd_same, ?_, h.1, h.2, by omega, by omega⟩
      split <;> omega
    refine ⟨_, rfl, _, rfl, a, _, rfl, .inl hS, _, _, rfl, rfl, _, rfl, ?_⟩
    by_cases c : (i : Int) < ((ns.map V.int).length : Nat)
    · rw [decide_eq_true c]
      refine iteT ?_
      have hl : i < ns.length := by
        rw [List.length_map] at c
        omega
      refine ⟨_, rfl, _, rfl, a, _, _, .int ns[i], rfl, rfl, hS, atI_nat (by simp [hl]), ?_⟩
      refine ⟨_, rfl, _, rfl, _, _, rfl, rfl, ⟨by decide, by decide, by decide⟩, _, _, rfl, rfl, _, _, rfl, ?_⟩
      exact ⟨_, rfl, .inl ⟨_, rfl, _, _, rfl, rfl, (show (2305843009213693951 : Int) ≠ 0 by decide), _, rfl, _, _, rfl, rfl, _, _, rfl, rfl, .inl ⟨by decide, by decide⟩, _, _, rfl, rfl, (by show 3 ≤ sizeLine; decide), fun p np => fin _ p np⟩⟩
    · rw [decide_eq_false c]
      refine iteF ?_
      refine ⟨_, rfl, _, rfl, _, _, rfl, rfl, ⟨by decide, by decide, by decide⟩, _, _, rfl, rfl, _, _, rfl, ?_⟩
      exact ⟨_, rfl, .inl ⟨_, rfl, _, _, rfl, rfl, (show (2305843009213693951 : Int) ≠ 0 by decide), _, rfl, _, _, rfl, rfl, _, _, rfl, rfl, .inl ⟨by decide, by decide⟩, _, _, rfl, rfl, (by show 3 ≤ sizeLine; decide), fun p np => fin _ p np⟩⟩
theorem scDraw : FnScope ["pool", "span", "drawn", "mixed"] ["pool", "span"] (defScope sDraw) := ⟨rfl, rfl, rfl, by decide +kernel, rfl, by decide +kernel, by decide +kernel⟩
def spDraw : Sp := fun vs H Q _ => ∃ (p : Addr) (k n : Int), vs = [.ref p, .int k] ∧ PoolAt H p n ∧ n < 1000000 ∧ 0 < k ∧ k < 1606938044258990275541962092341162602522202993782792835301376 ∧
  ∀ (d : Int) H', 0 ≤ d → d < k → PoolAt H' p (n + 1) → SameBut p H H' → Q (.int d) H'
theorem fm_lo {x k : Int} (h : 0 < k) : 0 ≤ x.fmod k := by
  rw [Int.fmod_eq_emod_of_nonneg _ (by omega)]
  exact Int.emod_nonneg x (by omega)
theorem fm_hi {x k : Int} (h : 0 < k) : x.fmod k < k := by
  rw [Int.fmod_eq_emod_of_nonneg _ (by omega)]
  exact Int.emod_lt_of_pos x h
theorem but_upd {H : Hp} {p : Addr} {o : HO} : SameBut p H (upd H p o) := fun b x n h => by
  rw [upd_ne n]
  exact h
theorem ok_draw {f : Addr} {fd : FuncData} {k : Nat} (F : Fun K "_law_draw" "_law_draw" sDraw f fd) (B : Bu mg) : FnOk P w K mg base CX0 (k + 1) f fd ["pool", "span"] spDraw := by
  refine F.ok scDraw (fun vs H Q E h => ?_) (fun cdv A outer s H vs Q E hr h => ?_)
  · obtain ⟨p, k, n, rfl, _⟩ := h
    rfl
  · obtain ⟨p, k, n, rfl, ⟨p0, p1, p2, hp, h0, h1, h1', h2, h2'⟩, hn, hk, hk', q⟩ := h
    have L0 : SqL K H p [.int p0, .int p1, .int p2] := SqL.of hp
    refine ⟨_, pss_cons (ps_if (pt_cmpR op_gt (pe_ix ix_list (pv 0) pe_int (fun _ _ => rfl)) pe_int (nomark _))
        (pss_cons (ps_set (i := 2) scDraw.nd rfl (Or.inl rfl) (pe_op op_modN (pe_callTy call_int1 (by rfl) B.int (by decide +kernel) (pa_cons (pe_ix ix_list (pv 0) pe_int (fun _ _ => rfl)) pa_nil)) (pv 1)))
        (pss_cons (ps_asg (pe_op op_fdivW (pe_ix ix_list (pv 0) pe_int (fun _ _ => rfl)) (pv 1)) (pg_sub (pv 0) pe_int set_list))
        (pss_one (ps_ret (pv 2))))) pss_nil)
      (pss_cons (ps_asg (pe_op op_add (pe_ix ix_list (pv 0) pe_int (fun _ _ => rfl)) pe_int) (pg_sub (pv 0) pe_int set_list))
      (pss_cons (ps_set (i := 3) scDraw.nd rfl (Or.inl rfl) (pe_op op_modN (pe_callTy call_int1 (by rfl) B.int (by decide +kernel) (pa_cons (pe_op op_powW (pe_op op_add (pe_ix ix_list (pv 0) pe_int (fun _ _ => rfl)) (pe_op op_mul pe_int (pe_ix ix_list (pv 0) pe_int (fun _ _ => rfl)))) pe_int) pa_nil)) pe_int))
      (pss_cons (ps_set (i := 3) scDraw.nd rfl (Or.inl rfl) (pe_op op_modN (pe_callTy call_int1 (by rfl) B.int (by decide +kernel) (pa_cons (pe_op op_powW (pe_op op_add (pv 3) (pe_op op_mul pe_int (pe_ix ix_list (pv 0) pe_int (fun _ _ => rfl)))) pe_int) pa_nil)) pe_int))
      (pss_one (ps_ret (pe_op op_modN (pe_callTy call_int1 (by rfl) B.int (by decide +kernel) (pa_cons (pe_op op_fdivN (pv 3) pe_int) pa_nil)) (pv 1))))))), ?_⟩
    refine ⟨_, rfl, p, _, _, _, rfl, rfl, L0, at0, _, _, rfl, rfl, _, rfl, ?_⟩
    by_cases c : (0 : Int) < p0
    · rw [decide_eq_true c]
      refine iteT ?_
      refine ⟨_, rfl, p, _, _, _, rfl, rfl, L0, at0, .inl ⟨_, rfl, _, rfl, _, _, rfl, rfl, (by omega), ?_⟩⟩
      refine ⟨_, rfl, p, _, _, _, rfl, rfl, L0, at0, _, rfl, _, _, rfl, rfl, ⟨hk, ?_⟩, ?_⟩
      · exact Nat.lt_of_lt_of_le (PySem.Flt.log2_lt_of (k := 200) (by decide) (by omega)) (by decide)
      refine ⟨_, rfl, p, _, _, 0, rfl, rfl, hp, rfl, ?_⟩
      refine ⟨_, rfl, q _ _ (fm_lo hk) (fm_hi hk) ⟨_, _, _, upd_same, ?_, h1, h1', h2, by omega⟩ but_upd⟩
      exact Int.ediv_nonneg h0 (by omega)
    · rw [decide_eq_false c]
      refine iteF ?_
      refine ⟨_, rfl, p, _, _, _, rfl, rfl, L0, at2, _, _, rfl, rfl, _, rfl, p, _, _, 2, rfl, rfl, hp, rfl, ?_⟩
      have L1 : SqL K (upd H p (.lst [.int p0, .int p1, .int (p2 + 1)])) p [.int p0, .int p1, .int (p2 + 1)] := SqL.of upd_same
      refine ⟨_, rfl, p, _, _, _, rfl, rfl, L1, at1, _, rfl, p, _, _, _, rfl, rfl, L1, at2, _, _, rfl, rfl, .inl ⟨by decide, by decide⟩, _, _, rfl, rfl, _, _, rfl, rfl, ⟨by decide, by decide, ?_⟩, ?_⟩
      · exact log2_small (n := 100) (by omega) (by omega) (by decide) (by decide)
      refine .inl ⟨_, rfl, _, _, rfl, rfl, (show (162259276829213363391578010288127 : Int) ≠ 0 by decide), ?_⟩
      have m0 : 0 ≤ ((p1 + 15485863 * (p2 + 1)) ^ (3 : Int).toNat).fmod 162259276829213363391578010288127 := fm_lo (by decide)
      have m1 : ((p1 + 15485863 * (p2 + 1)) ^ (3 : Int).toNat).fmod 162259276829213363391578010288127 < 162259276829213363391578010288127 := fm_hi (by decide)
      refine ⟨_, rfl, _, rfl, p, _, _, _, rfl, rfl, L1, at2, _, _, rfl, rfl, .inl ⟨by decide, by decide⟩, _, _, rfl, rfl, _, _, rfl, rfl, ⟨by decide, by decide, ?_⟩, ?_⟩
      · exact log2_small (n := 200) (by omega) (by omega) (by decide) (by decide)
      refine .inl ⟨_, rfl, _, _, rfl, rfl, (show (170141183460469231731687303715884105727 : Int) ≠ 0 by decide), ?_⟩
      refine ⟨_, rfl, _, _, rfl, rfl, ⟨by decide, by decide⟩, .inl ⟨_, rfl, _, rfl, _, _, rfl, rfl, (by omega), ?_⟩⟩
      exact q _ _ (fm_lo hk) (fm_hi hk) ⟨_, _, _, upd_same, h0, h1, h1', by omega, by omega⟩ but_upd
theorem scWord : FnScope ["pool", "widest", "signs", "turn"] ["pool", "widest", "signs"] (defScope sWord) := ⟨rfl, rfl, rfl, by decide +kernel, rfl, by decide +kernel, by decide +kernel⟩
def spWord : Sp := fun vs H Q _ => ∃ (p : Addr) (wd n : Int) (sg : Str), vs = [.ref p, .int wd, .str sg] ∧ PoolAt H p n ∧ n < 900000 ∧ 0 < wd ∧ wd ≤ 20 ∧ 0 < sg.length ∧ sg.length ≤ 100 ∧
  ∀ (z : Str) H', 1 ≤ z.length → (z.length : Int) ≤ wd → (∀ c ∈ z.cps.toList, c ∈ sg.cps.toList) → PoolAt H' p (n + 21) → SameBut p H H' → Q (.str z) H'
theorem ok_word {f fd' : Addr} {fd fdd : FuncData} {k : Nat} (F : Fun K "_law_word" "_law_word" sWord f fd) (B : Bu mg) (G : FnOk P w K mg base CX0 k fd' fdd ["pool", "span"] spDraw) (bD : Binds K fdd ["pool", "span"] []) (kD : PySem.W.keepIn K (.ref fd') = true) (gD : mg "_law_draw" = some (.ref fd')) :
    FnOk P w K mg base CX0 (k + 1) f fd ["pool", "widest", "signs"] spWord := by
  refine F.ok scWord (fun vs H Q E h => ?_) (fun cdv A outer s H vs Q E hr h => ?_)
  · obtain ⟨p, wd, n, sg, rfl, _⟩ := h
    rfl
  · obtain ⟨p, wd, n, sg, rfl, hp, hn, hw, hw', hs, hs', q⟩ := h
    refine ⟨_, pss_one (ps_ret (pe_join pe_str (pe_lc (own := [("turn", 3)]) (g := gName 3) (tt := tYes) rfl scWord.nd (pi_range1 (by rfl) B.range (pa_cons (pe_op op_add pe_int (pe_call G hr (by rfl) gD kD bD .nil pass0 (pa_cons (pv 0) (pa_cons (pv 1) pa_nil)))) pa_nil))
      (blkOk_by (N := ["pool", "widest", "signs", "turn"]) (sc := defScope sWord) (by decide +kernel)) (fun _ _ _ _ _ => pg_name (i := 3) scWord.nd rfl (Or.inl rfl)) (fun _ _ _ _ _ => pts_nil)
      (fun _ _ _ _ _ => pe_ix ix_str (pv 2) (pe_call G hr (by rfl) gD kD bD .nil pass0 (pa_cons (pv 0) (pa_cons (pe_callB call_len_str (by rfl) B.len PySem.boot_len (pa_cons (pv 2) pa_nil)) pa_nil))) (fun _ _ => rfl))))), ?_⟩
    refine ⟨⟨_, rfl⟩, _, rfl, _, rfl, p, wd, n, rfl, hp, by omega, hw, by omega, fun d H1 d0 d1 hp1 b1 => ?_⟩
    refine ⟨_, _, rfl, rfl, _, rfl, by omega, by omega, fun D hD => ?_⟩
    have npD : p ≠ D := by
      obtain ⟨_, _, _, e, _⟩ := hp1
      exact ne_of_none e hD
    have hm : (1 + d).toNat ≤ 20 := by omega
    refine lc_it walk_range (fun i H2 => ∃ us : List Str, us.length = i ∧ H2 D = some (.lst (us.map V.str)) ∧ (∀ u ∈ us, ∃ c ∈ sg.cps.toList, u = ⟨#[c]⟩) ∧ PoolAt H2 p (n + 1 + i) ∧ SameBut p H H2)
      ⟨[], rfl, upd_same, fun u hu => by simp at hu, (hp1.same (same_upd hD)).le (by simp), b1.trans (Same.but (same_upd hD))⟩ (fun _ _ _ _ => trivial) ?_ ?_
    · rintro i x H2 H3 hi ⟨us, hl, hD2, hu, hp2, b2⟩ ⟨rfl, rfl⟩
      refine ⟨rfl, yesT ?_⟩
      refine ⟨_, rfl, _, rfl, _, rfl, sg, rfl, Nat.le_trans hs' (by decide), p, _, _, rfl, hp2, by omega, by omega, by omega, fun e H4 e0 e1 hp4 b4 => ?_⟩
      have hel : e.toNat < sg.cps.toList.length := by
        have : sg.length = sg.cps.toList.length := by simp [Str.length]
        omega
      have ee : (e.toNat : Int) = e := by omega
      refine ⟨sg, e, sg.cps.toList[e.toNat], rfl, rfl, Nat.le_trans hs' (by decide), ?_, ?_⟩
      · exact atI_int e0 hel
      · refine ⟨us.map V.str, b4 _ _ (Ne.symm npD) hD2, ?_, us ++ [⟨#[sg.cps.toList[e.toNat]]⟩], by simp [hl], ?_, ?_, ?_, ?_⟩
        · rw [List.length_map]
          exact Nat.lt_of_le_of_lt (show us.length ≤ 20 by omega) (by decide)
        · rw [upd_same]
          simp
        · intro u hm'
          rcases List.mem_append.mp hm' with h | h
          · exact hu u h
          · exact ⟨_, List.getElem_mem hel, by simpa using h⟩
        · obtain ⟨x0, x1, x2, y1, y2, y3, y4, y5, y6⟩ := hp4
          exact ⟨x0, x1, x2, by rw [upd_ne npD]; exact y1, y2, y3, y4, y5, by push_cast at y6 ⊢; omega⟩
        · intro b o nb hb
          have nbD : b ≠ D := by
            intro z
            subst z
            have := b1 _ _ nb hb
            rw [hD] at this
            cases this
          rw [upd_ne nbD]
          exact b4 _ _ nb (b2 _ _ nb hb)
    · rintro H2 ⟨us, hl, hD2, hu, hp2, b2⟩
      have h1 := sum_ones us fun u hm' => let ⟨c, _, e⟩ := hu u hm'; ⟨c, e⟩
      refine ⟨_, D, us, rfl, rfl, .inl (SqL.of hD2), ?_, ?_⟩
      · rw [h1]
        show us.length + us.length * 0 ≤ 16777216
        omega
      · rw [join_cat (by rfl)]
        have hlen : (catS us).length = us.length := by rw [catS_len, h1]
        refine q _ _ (by rw [hlen]; omega) (by rw [hlen]; omega) ?_ (hp2.le (by omega)) b2
        intro c hc
        rw [catS_list] at hc
        obtain ⟨l, hl', hc'⟩ := List.mem_flatten.mp hc
        obtain ⟨u, hu', rfl⟩ := List.mem_map.mp hl'
        obtain ⟨c', hm', rfl⟩ := hu u hu'
        simp at hc'
        subst hc'
        exact hm'
theorem scLot : FnScope ["pool", "many", "widest", "signs", "found", "turn", "fresh", "way", "left", "right", "cut"] ["pool", "many", "widest"] (defScope sLot) := ⟨rfl, rfl, rfl, by decide +kernel, rfl, by decide +kernel, by decide +kernel⟩
def sgs : List Str := ["ab", "ab", "abc", "zq", LET]
theorem sgs_ok : ∀ s ∈ sgs, 0 < s.length ∧ s.length ≤ 100 ∧ isL s = true := by decide +kernel
structure LotOk (ws : List Str) (wd : Int) : Prop where
  nd : ws.Nodup
  l : ∀ x ∈ ws, isL x = true ∧ 1 ≤ x.length ∧ (x.length : Int) ≤ wd
def spLot : Sp := fun vs H Q _ => ∃ (p : Addr) (many wd n : Int), vs = [.ref p, .int many, .int wd] ∧ PoolAt H p n ∧ n < 800000 ∧ 1 ≤ many ∧ many ≤ 8 ∧ 1 ≤ wd ∧ wd ≤ 20 ∧
  ∀ (l : Addr) (ws : List Str) H', H l = none → H' l = some (.lst (ws.map V.str)) → LotOk ws wd → 1 ≤ ws.length → (ws.length : Int) ≤ many → PoolAt H' p (n + 500) → SameBut p H H' → Q (.ref l) H'
theorem ok_lot {f fd' fw' : Addr} {fd fdd fdw : FuncData} {k : Nat} (F : Fun K "_law_lot" "_law_lot" sLot f fd) (B : Bu mg) (G : FnOk P w K mg base CX0 k fd' fdd ["pool", "span"] spDraw) (bD : Binds K fdd ["pool", "span"] []) (kD : PySem.W.keepIn K (.ref fd') = true) (gD : mg "_law_draw" = some (.ref fd'))
    (GW : FnOk P w K mg base CX0 (k + 1) fw' fdw ["pool", "widest", "signs"] spWord) (bW : Binds K fdw ["pool", "widest", "signs"] []) (kW : PySem.W.keepIn K (.ref fw') = true) (gW : mg "_law_word" = some (.ref fw')) :
    FnOk P w K mg base CX0 (k + 2) f fd ["pool", "many", "widest"] spLot := by
  refine F.ok scLot (fun vs H Q E h => ?_) (fun cdv A outer s H vs Q E hr h => ?_)
  · obtain ⟨p, many, wd, n, rfl, _⟩ := h
    rfl
  · obtain ⟨p, many, wd, n, rfl, hp, hn, hm, hm', hw, hw', q⟩ := h
    have hr1 : Room k _ := hr.mono (Nat.le_succ k)
    refine ⟨_, pss_cons (ps_set (i := 3) scLot.nd rfl (Or.inl rfl) (pe_ix ix_list (pe_lst (pa_cons pe_str (pa_cons pe_str (pa_cons pe_str (pa_cons pe_str (pa_cons pe_str pa_nil)))))) (pe_call G hr1 (by rfl) gD kD bD .nil pass0 (pa_cons (pv 0) (pa_cons pe_int pa_nil))) (fun _ _ => rfl)))
      (pss_cons (ps_set (i := 4) scLot.nd rfl (Or.inl rfl) (pe_lst pa_nil))
      (pss_cons (ps_for PassesOwn.never rfl (pi_range1 (by rfl) B.range (pa_cons (pe_op op_add pe_int (pe_call G hr1 (by rfl) gD kD bD .nil pass0 (pa_cons (pv 0) (pa_cons (pv 1) pa_nil)))) pa_nil)) (pg_name (i := 5) scLot.nd rfl (Or.inl rfl))
        (pss_cons (ps_par (i := 6) (j := 7) (by rfl) scLot.nd rfl rfl (by decide) rfl rfl (pa_cons (pe_call GW hr (by rfl) gW kW bW .nil pass0 (pa_cons (pv 0) (pa_cons (pv 2) (pa_cons (pv 3) pa_nil)))) (pa_cons (pe_call G hr1 (by rfl) gD kD bD .nil pass0 (pa_cons (pv 0) (pa_cons pe_int pa_nil))) pa_nil)) (by rfl))
        (pss_cons (ps_if (PW.pt (pw_and (pt_cmpR (op_neD hr.units) (pv 4) (pe_lst pa_nil) (nomark _)) (pw_and1 (pt_cmpR op_lt (pv 7) pe_int (nomark _)))))
          (pss_cons (ps_par (i := 8) (j := 9) (by rfl) scLot.nd rfl rfl (by decide) rfl rfl (pa_cons (pe_ix ix_list (pv 4) (pe_call G hr1 (by rfl) gD kD bD .nil pass0 (pa_cons (pv 0) (pa_cons (pe_callB call_len_seq (by rfl) B.len PySem.boot_len (pa_cons (pv 4) pa_nil)) pa_nil))) (fun _ _ => rfl))
              (pa_cons (pe_ix ix_list (pv 4) (pe_call G hr1 (by rfl) gD kD bD .nil pass0 (pa_cons (pv 0) (pa_cons (pe_callB call_len_seq (by rfl) B.len PySem.boot_len (pa_cons (pv 4) pa_nil)) pa_nil))) (fun _ _ => rfl)) pa_nil)) (by rfl))
          (pss_cons (ps_set (i := 10) scLot.nd rfl (Or.inl rfl) (pe_op op_add pe_int (pe_call G hr1 (by rfl) gD kD bD .nil pass0 (pa_cons (pv 0) (pa_cons (pe_callB call_len_str (by rfl) B.len PySem.boot_len (pa_cons (pv 8) pa_nil)) pa_nil)))))
          (pss_one (ps_set (i := 6) scLot.nd rfl (Or.inl rfl) (pe_ix ix_list (pe_lst (pa_cons (pe_op op_add_str (pv 8) (pv 9)) (pa_cons (pe_slice sl_str (pv 8) po_none (po_some (pv 10))) (pa_cons (pe_op op_add_str (pe_slice sl_str (pv 8) (po_some (pe_op op_sub (pv 10) pe_int)) po_none) (pe_slice sl_str (pv 9) po_none (po_some pe_int))) pa_nil)))) (pv 7) (fun _ _ => rfl)))))) pss_nil)
        (pss_one (ps_if (PW.pt (pw_and (pt_cmpR op_le (pe_callB call_len_str (by rfl) B.len PySem.boot_len (pa_cons (pv 6) pa_nil)) (pv 2) (nomark _)) (pw_and1 (pt_cmpR op_notIn_seq (pv 6) (pv 4) rfl))))
          (pss_one (ps_expr (pe_bm PySem.F.plainAttrs_list PySem.F.slot_list_append PySem.F.type_list_append mt_append (pv 4) (pa_cons (pv 6) pa_nil)))) pss_nil)))))
      (pss_one (ps_ret (pv 4))))), ?_⟩
    -- signs
    refine ⟨(by show 5 ≤ sizeLine; decide), fun l0 nl0 => ?_⟩
    have s0 := same_upd (o := .lst [V.str "ab", .str "ab", .str "abc", .str "zq", .str LET]) nl0
    refine ⟨_, rfl, p, _, n, rfl, hp.same s0, by omega, by decide, by decide, fun d H1 d0 d1 hp1 b1 => ?_⟩
    have np0 : p ≠ l0 := by
      obtain ⟨_, _, _, e, _⟩ := hp
      exact ne_of_none e nl0
    obtain ⟨sg, hsg, hsm, _⟩ := at_strs (ss := sgs) d0 d1
    obtain ⟨sg1, sg2, sg3⟩ := sgs_ok sg hsm
    refine ⟨l0, _, _, _, rfl, rfl, SqL.of (b1 _ _ (Ne.symm np0) upd_same), hsg, ?_⟩
    -- found = []
    refine ⟨Nat.zero_le _, fun l nl => ?_⟩
    have npl : p ≠ l := by
      obtain ⟨_, _, _, e, _⟩ := hp1
      exact ne_of_none e nl
    have b2 : SameBut p H (upd H1 l (.lst [])) := ((Same.but s0).trans b1).trans (Same.but (same_upd nl))
    refine ⟨_, rfl, _, rfl, p, many, n + 1, rfl, hp1.same (same_upd nl), by omega, by omega, by omega, fun d' H2 d0' d1' hp2 b3 => ?_⟩
    refine ⟨_, _, rfl, rfl, _, rfl, by omega, by omega, ?_⟩
    have hl0 : H l = none := (((Same.but s0).trans b1).free (Ne.symm npl) nl)
    have hl2 : H2 l = some (.lst []) := b3 _ _ (Ne.symm npl) upd_same
    refine for_range (lo := 0) (n := (1 + d').toNat) (fun i σ H3 => ∃ (ws : List Str) (v5 v6 v7 v8 v9 v10 : Option V), σ = [some (.ref p), some (.int many), some (.int wd), some (.str sg), some (.ref l), v5, v6, v7, v8, v9, v10] ∧
        H3 l = some (.lst (ws.map V.str)) ∧ LotOk ws wd ∧ ws.length ≤ i ∧ (1 ≤ i → 1 ≤ ws.length) ∧ PoolAt H3 p (n + 2 + 30 * i) ∧ SameBut p H H3)
      ⟨[], none, none, none, none, none, none, rfl, hl2, ⟨List.nodup_nil, fun x h => by simp at h⟩, Nat.le_refl _, fun h => by omega, hp2.le (by simp; omega), b2.trans b3⟩ ?_ ?_
    · rintro i σ H3 hi ⟨ws, v5, v6, v7, v8, v9, v10, rfl, hl3, lo, wl, wi, hp3, b4⟩
      have hi8 : i ≤ 8 := by omega
      refine ⟨_, rfl, _, rfl, _, rfl, p, wd, _, sg, rfl, hp3, by omega, hw, hw', sg1, sg2, fun z H4 z1 z2 z3 hp4 b5 => ?_⟩
      refine ⟨_, rfl, p, _, _, rfl, hp4, by omega, by decide, by decide, fun way H5 w0 w1 hp5 b6 => ⟨_, _, rfl, ?_⟩⟩
      have zL : isL z = true := isL_iff.mpr fun c hc => isL_iff.mp sg3 c (z3 c hc)
      have b7 : SameBut p H H5 := (b4.trans b5).trans b6
      have hl5 : H5 l = some (.lst (ws.map V.str)) := b6 _ _ (Ne.symm npl) (b5 _ _ (Ne.symm npl) hl3)
      with_reducible show tSeq _ _ _ _ _
      refine seq_mid (fun σ H6 => ∃ (y : Str) (v8 v9 v10 : Option V), σ = [some (.ref p), some (.int many), some (.int wd), some (.str sg), some (.ref l), some (.int (0 + i)), some (.str y), some (.int way), v8, v9, v10] ∧
        H6 l = some (.lst (ws.map V.str)) ∧ isL y = true ∧ 1 ≤ y.length ∧ y.length ≤ 1000 ∧ (ws = [] → (y.length : Int) ≤ wd) ∧ PoolAt H6 p (n + 2 + 30 * i + 29) ∧ SameBut p H H6) ?_ ?_
      · intro N hN
        have sok : SOk ws := fun x hx => sok_isL (lo.l x hx).1
        refine ⟨_, rfl, Nat.zero_le _, fun e ne => ?_⟩
        have s9 := same_upd (o := .lst []) ne
        refine ⟨_, _, dp_lst (SqL.of (s9 _ _ hl5)), dp_lst (ws := []) (SqL.of upd_same), sh_lst sok, sh_lst (fun x h => by simp at h), _, rfl, ?_⟩
        rw [eqv_lst]
        by_cases c0 : ws = []
        · rw [decide_eq_true c0]
          refine iteF (iteF ?_)
          exact hN _ _ ⟨z, v8, v9, v10, rfl, s9 _ _ hl5, zL, z1, by omega, fun _ => z2, (hp5.same s9).le (by omega), b7.trans (Same.but s9)⟩
        · rw [decide_eq_false c0]
          refine iteT ?_
          refine ⟨_, rfl, _, _, rfl, rfl, _, rfl, ?_⟩
          by_cases c1 : way < 3
          · rw [decide_eq_true c1]
            refine iteT ?_
            have hl7 := s9 _ _ hl5
            have wl1 : 1 ≤ ws.length := by
              cases ws with
              | nil => exact absurd rfl c0
              | cons a b => simp
            have hlen : (((ws.map V.str).length : Nat) : Int) = (ws.length : Int) := by rw [List.length_map]
            -- left, right
            refine ⟨_, rfl, _, rfl, _, rfl, l, _, rfl, .inl (SqL.of hl7), p, _, _, rfl, hp5.same s9, by omega, by omega, by omega, fun da H7 a0 a1 hp7 b9 => ?_⟩
            have hl8 := b9 _ _ (Ne.symm npl) hl7
            obtain ⟨lf, hlf, lfm, _⟩ := at_strs (ss := ws) a0 (by omega)
            refine ⟨l, _, _, _, rfl, rfl, SqL.of hl8, hlf, ?_⟩
            refine ⟨_, rfl, _, rfl, _, rfl, l, _, rfl, .inl (SqL.of hl8), p, _, _, rfl, hp7, by omega, by omega, by omega, fun db H8 e0 e1 hp8 b10 => ?_⟩
            have hl9 := b10 _ _ (Ne.symm npl) hl8
            obtain ⟨rt, hrt, rtm, _⟩ := at_strs (ss := ws) e0 (by omega)
            refine ⟨l, _, _, _, rfl, rfl, SqL.of hl9, hrt, ?_⟩
            obtain ⟨lf1, lf2, lf3⟩ := lo.l lf lfm
            obtain ⟨rt1, rt2, rt3⟩ := lo.l rt rtm
            have lfs : lf.length ≤ sizeLine := Nat.le_trans (show lf.length ≤ 20 by omega) (by decide)
            have rts : rt.length ≤ sizeLine := Nat.le_trans (show rt.length ≤ 20 by omega) (by decide)
            -- cut
            refine ⟨_, _, rfl, ?_⟩
            refine ⟨_, rfl, _, rfl, lf, rfl, lfs, p, _, _, rfl, hp8, by omega, by omega, by omega, fun dc H9 g0 g1 hp9 b11 => ?_⟩
            refine ⟨_, _, rfl, rfl, ?_⟩
            -- fresh
            refine ⟨_, rfl, _, rfl, lf, rt, rfl, rfl, Nat.le_trans (show lf.length + rt.length ≤ 40 by omega) (by decide), ?_⟩
            refine ⟨_, rfl, _, rfl, _, rfl, lf, rfl, lfs, ?_⟩
            refine ⟨_, rfl, _, rfl, _, _, rfl, rfl, _, rfl, lf, rfl, lfs, ?_⟩
            refine ⟨_, rfl, _, rfl, rt, rfl, rts, ?_⟩
            have cL : (cutS lf (some (1 + dc - 1)) none).length = lf.length - (1 + dc - 1).toNat := len_lo (by omega)
            have cR : (cutS rt none (some 1)).length = min (1 : Int).toNat rt.length := len_hi (by omega)
            have cC : (cutS lf none (some (1 + dc))).length = min (1 + dc).toNat lf.length := len_hi (by omega)
            have cR' : (1 : Int).toNat = 1 := rfl
            refine ⟨_, _, rfl, rfl, Nat.le_trans (show (cutS lf (some (1 + dc - 1)) none).length + (cutS rt none (some 1)).length ≤ 40 by omega) (by decide), ?_⟩
            refine ⟨(by show 3 ≤ sizeLine; decide), fun l3 nl3 => ?_⟩
            have s10 := same_upd (o := .lst [V.str (lf ++ rt), .str (cutS lf none (some (1 + dc))), .str (cutS lf (some (1 + dc - 1)) none ++ cutS rt none (some 1))]) nl3
            obtain ⟨y, hy, ym, _⟩ := at_strs (ss := [lf ++ rt, cutS lf none (some (1 + dc)), cutS lf (some (1 + dc - 1)) none ++ cutS rt none (some 1)]) w0 (by simpa using c1)
            refine ⟨_, rfl, l3, _, _, _, rfl, rfl, SqL.of upd_same, hy, ?_⟩
            have yy : isL y = true ∧ 1 ≤ y.length ∧ y.length ≤ 1000 := by
              simp only [List.mem_cons, List.not_mem_nil, or_false] at ym
              rcases ym with e | e | e
              · rw [e, len_app]
                exact ⟨isL_app lf1 rt1, by omega, by omega⟩
              · rw [e]
                exact ⟨isL_hi (by omega) lf1, by omega, by omega⟩
              · rw [e, len_app]
                exact ⟨isL_app (isL_lo (by omega) lf1) (isL_hi (by omega) rt1), by omega, by omega⟩
            refine hN _ _ ⟨y, some (.str lf), some (.str rt), some (.int (1 + dc)), rfl, s10 _ _ (b11 _ _ (Ne.symm npl) hl9), yy.1, yy.2.1, yy.2.2, fun z => absurd z c0, (hp9.same s10).le (by omega), ?_⟩
            exact (((((b7.trans (Same.but s9)).trans b9).trans b10).trans b11).trans (Same.but s10))
          · rw [decide_eq_false c1]
            refine iteF ?_
            exact hN _ _ ⟨z, v8, v9, v10, rfl, s9 _ _ hl5, zL, z1, by omega, fun e => absurd e c0, (hp5.same s9).le (by omega), b7.trans (Same.but s9)⟩
      · rintro σ H6 ⟨y, v8, v9, v10, rfl, hl6, yL, y1, y2, y3, hp6, b8⟩
        refine ⟨_, rfl, y, rfl, Nat.le_trans y2 (by decide), _, rfl, _, _, rfl, rfl, _, rfl, ?_⟩
        have go : ∀ H7, H7 l = some (.lst ((ws).map V.str)) → H7 = H6 → (ws ≠ []) → ∃ (ws' : List Str) (v5 v6 v7 v8' v9' v10' : Option V), ([some (.ref p), some (.int many), some (.int wd), some (.str sg), some (.ref l), some (.int (0 + i)), some (.str y), some (.int way), v8, v9, v10] : Sl) = [some (.ref p), some (.int many), some (.int wd), some (.str sg), some (.ref l), v5, v6, v7, v8', v9', v10'] ∧
            H7 l = some (.lst (ws'.map V.str)) ∧ LotOk ws' wd ∧ ws'.length ≤ i + 1 ∧ (1 ≤ i + 1 → 1 ≤ ws'.length) ∧ PoolAt H7 p (n + 2 + 30 * ((i + 1 : Nat) : Int)) ∧ SameBut p H H7 := by
          rintro H7 h7 rfl hne
          refine ⟨ws, _, _, _, _, _, _, rfl, h7, lo, by omega, fun _ => ?_, hp6.le (by push_cast; omega), b8⟩
          cases ws with
          | nil => exact absurd rfl hne
          | cons a b => simp
        by_cases c1 : (y.length : Int) ≤ wd
        · rw [decide_eq_true c1]
          refine iteT ?_
          refine ⟨_, rfl, _, rfl, l, _, rfl, .inl (SqL.of hl6), rfl, flat_strs ws, _, rfl, ?_⟩
          rw [inV_strs]
          by_cases c2 : y ∈ ws
          · rw [decide_eq_true c2]
            refine iteF ?_
            exact go H6 hl6 rfl (fun z => by rw [z] at c2; simp at c2)
          · rw [decide_eq_false c2]
            refine iteT ?_
            refine ⟨_, rfl, .inl ⟨rfl, _, SqL.of hl6⟩, _, rfl, l, _, _, rfl, rfl, hl6, ?_, ?_⟩
            · rw [List.length_map]
              exact Nat.lt_of_le_of_lt (show ws.length ≤ 100 by omega) (by decide)
            refine ⟨ws ++ [y], _, _, _, _, _, _, rfl, ?_, ⟨?_, ?_⟩, ?_, ?_, ?_, ?_⟩
            · rw [upd_same]
              simp
            · rw [List.nodup_append]
              exact ⟨lo.nd, by simp, fun a ha b hb => by
                simp at hb
                subst hb
                intro e
                subst e
                exact c2 ha⟩
            · intro x hx
              rcases List.mem_append.mp hx with h | h
              · exact lo.l x h
              · have e : x = y := by simpa using h
                subst e
                exact ⟨yL, y1, c1⟩
            · rw [List.length_append]
              simp
              omega
            · intro _
              rw [List.length_append]
              simp
            · obtain ⟨x0, x1, x2, e1, e2, e3, e4, e5, e6⟩ := hp6
              exact ⟨x0, x1, x2, by rw [upd_ne npl]; exact e1, e2, e3, e4, e5, by push_cast at e6 ⊢; omega⟩
            · intro b o nb hb
              have nbl : b ≠ l := by
                intro z
                subst z
                rw [hl0] at hb
                cases hb
              rw [upd_ne nbl]
              exact b8 _ _ nb hb
        · rw [decide_eq_false c1]
          refine iteF (iteF ?_)
          exact go H6 hl6 rfl (fun z => c1 (y3 z))
    · rintro σ H3 ⟨ws, v5, v6, v7, v8, v9, v10, rfl, hl3, lo, wl, wi, hp3, b4⟩
      exact ⟨_, rfl, q l ws H3 hl0 hl3 lo (wi (by omega)) (by omega) (hp3.le (by omega)) b4⟩
end

end WH
namespace WH
open PySem PySem.Spec PyProof.Rows L2
/-! ### how many readings: the mathematics -/
def fit (w : Str) (t : List Nat) : Bool := t.take w.length == w.cps.toList
/-- how many readings each ending of a text has, the longest first -/
def wl (ws : List Str) : List Nat → List Nat
  | [] => [1]
  | c :: t => (ws.map fun w => if fit w (c :: t) = true then (wl ws t).getD (w.length - 1) 0 else 0).sum :: wl ws t
theorem wl_len (ws : List Str) : ∀ t : List Nat, (wl ws t).length = t.length + 1
  | [] => rfl
  | c :: t => by
    show (wl ws t).length + 1 = t.length + 1 + 1
    rw [wl_len ws t]
theorem starts_at {x y : Str} {i : Nat} (hi : i ≤ x.length) (hy : 1 ≤ y.length) : Txt.startswith3 x y (i : Int) = fit y (x.cps.toList.drop i) := by
  unfold Txt.startswith3 fit
  have e : PySem.fromIndex x.length (i : Int) = i := by
    unfold PySem.fromIndex
    rw [if_neg (by omega)]
    omega
  rw [e, StrLaws.subAt_eq]
  have hx := len_list x
  by_cases c : i + y.length ≤ x.length
  · rw [decide_eq_true c]
    rfl
  · rw [decide_eq_false c, Bool.false_and]
    symm
    rw [beq_eq_false_iff_ne]
    intro z
    have z' := congrArg List.length z
    rw [List.length_take, List.length_drop, ← hx, ← len_list y] at z'
    omega
theorem fit_len {w : Str} {t : List Nat} (h : fit w t = true) : w.length ≤ t.length := by
  unfold fit at h
  have e := congrArg List.length (eq_of_beq h)
  rw [List.length_take, ← len_list w] at e
  omega
/-- one entry -/
def ent (ws : List Str) (t : List Nat) (r : List Nat) : Nat := (ws.map fun w => if fit w t = true then r.getD (w.length - 1) 0 else 0).sum
theorem wl_cons (ws : List Str) (c : Nat) (t : List Nat) : wl ws (c :: t) = ent ws (c :: t) (wl ws t) :: wl ws t := rfl
theorem drop_cons {t : List Nat} {m : Nat} (h : m < t.length) : t.drop m = t[m] :: t.drop (m + 1) := List.drop_eq_getElem_cons h
theorem set_mid' {v u : V} {m : Nat} {r : List V} : (List.replicate (m + 1) v ++ r).set m u = List.replicate m v ++ u :: r := by
  rw [List.replicate_succ', List.append_assoc, List.set_append_right _ _ (by simp)]
  simp
theorem sum_cast : ∀ l : List Nat, (l.map fun (n : Nat) => (n : Int)).sum = ((l.sum : Nat) : Int)
  | [] => rfl
  | x :: r => by
    rw [List.map_cons, List.sum_cons, List.sum_cons, sum_cast r]
    push_cast
    rfl
section
variable {P : Program} {w : World} {K : PySem.W.Frag} {mg : Str → Option Value} {base : Heap}
theorem scCheckText : FnScope ["text"] ["text"] (defScope sCheckText) := ⟨rfl, rfl, rfl, by decide +kernel, rfl, by decide +kernel, by decide +kernel⟩
def spCheckText : Sp := fun vs H Q _ => ∃ z : Str, vs = [.str z] ∧ z.length ≤ 100000 ∧ isL z = true ∧ ∀ H', Same H H' → Q .non H'
theorem ok_checkText {f fL : Addr} {fd fdL : FuncData} {k : Nat} (F : Fun K "check_text" "check_text" sCheckText f fd) (G : FnOk P w K mg base CX0 k fL fdL ["text"] spIsLetters) (bL : Binds K fdL ["text"] []) (kL : PySem.W.keepIn K (.ref fL) = true) (gL : mg "is_letters" = some (.ref fL)) :
    FnOk P w K mg base CX0 (k + 1) f fd ["text"] spCheckText := by
  refine F.ok scCheckText (fun vs H Q E h => ?_) (fun cdv A outer s H vs Q E hr h => ?_)
  · obtain ⟨z, rfl, _⟩ := h
    rfl
  · obtain ⟨z, rfl, hz, hL, q⟩ := h
    refine ⟨_, pss_one (ps_if (pt_not (pt_val (pe_call G hr (by rfl) gL kL bL .nil pass0 (pa_cons (pv 0) pa_nil)))) (pss_one ps_never) pss_nil), ?_⟩
    refine ⟨_, rfl, z, rfl, hz, fun H' s' => ⟨_, rfl, ?_⟩⟩
    rw [hL]
    exact iteF (q _ s')
theorem scWaysWith : FnScope ["word", "text", "place", "ways"] ["word", "text", "place", "ways"] (defScope sWaysWith) := ⟨rfl, rfl, rfl, by decide +kernel, rfl, by decide +kernel, by decide +kernel⟩
def spWaysWith (K : PySem.W.Frag) : Sp := fun vs H Q _ => ∃ (x z : Str) (i : Nat) (a : Addr) (ys : List V), vs = [.str x, .str z, .int i, .ref a] ∧ SqL K H a ys ∧ 1 ≤ x.length ∧ x.length ≤ 100 ∧ i ≤ z.length ∧ z.length ≤ 100000 ∧
  ∃ y : Int, (fit x (z.cps.toList.drop i) = true → ys[i + x.length]? = some (.int y)) ∧ (fit x (z.cps.toList.drop i) = false → y = 0) ∧ Q (.int y) H
theorem ok_waysWith {f : Addr} {fd : FuncData} {k : Nat} (F : Fun K "ways_with" "ways_with" sWaysWith f fd) (ml : mg "len" = none) : FnOk P w K mg base CX0 (k + 1) f fd ["word", "text", "place", "ways"] (spWaysWith K) := by
  refine F.ok scWaysWith (fun vs H Q E h => ?_) (fun cdv A outer s H vs Q E hr h => ?_)
  · obtain ⟨x, z, i, a, ys, rfl, _⟩ := h
    rfl
  · obtain ⟨x, z, i, a, ys, rfl, hS, hx, hx', hi, hz, y, q1, q0, q⟩ := h
    refine ⟨_, pss_cons (ps_if (pt_val (pe_bm PySem.F.plainAttrs_str PySem.F.slot_str_startswith PySem.F.type_str_startswith mt_startswith3 (pv 1) (pa_cons (pv 0) (pa_cons (pv 2) pa_nil))))
        (pss_one (ps_ret (pe_ix ix_list (pv 3) (pe_op op_add (pv 2) (pe_callB call_len_str (by rfl) ml PySem.boot_len (pa_cons (pv 0) pa_nil))) (fun _ _ => rfl)))) pss_nil) (pss_one (ps_ret pe_int)), ?_⟩
    have e := starts_at (x := z) (y := x) hi hx
    refine ⟨_, rfl, rfl, _, rfl, _, rfl, z, x, i, rfl, rfl, _, rfl, ?_⟩
    rw [e]
    by_cases c : fit x (z.cps.toList.drop i) = true
    · rw [c]
      refine iteT ?_
      have hy := q1 c
      refine ⟨_, rfl, _, rfl, _, rfl, x, rfl, Nat.le_trans hx' (by decide), _, _, rfl, rfl, a, ys, _, _, rfl, rfl, hS, ?_, q⟩
      have := atI_nat hy
      push_cast at this
      exact this
    · have c' : fit x (z.cps.toList.drop i) = false := by simpa using c
      rw [c']
      have hy := q0 c'
      subst hy
      exact iteF q
theorem scAllWays : FnScope ["words", "text", "ways", "place", "word"] ["words", "text"] (defScope sAllWays) := ⟨rfl, rfl, rfl, by decide +kernel, rfl, by decide +kernel, by decide +kernel⟩
def spAllWays (K : PySem.W.Frag) : Sp := fun vs H Q _ => ∃ (a : Addr) (ws : List Str) (z : Str), vs = [.ref a, .str z] ∧ SqL K H a (ws.map V.str) ∧ (∀ x ∈ ws, 1 ≤ x.length ∧ x.length ≤ 8) ∧ ws.length ≤ 8 ∧ z.length ≤ 100000 ∧
  ∀ l H', H l = none → Same H H' → H' l = some (.lst ((wl ws z.cps.toList).map fun y => V.int (y : Nat))) → Q (.ref l) H'
theorem ok_allWays {f fw : Addr} {fd fdw : FuncData} {k : Nat} (F : Fun K "all_ways" "all_ways" sAllWays f fd) (G : FnOk P w K mg base CX0 k fw fdw ["word", "text", "place", "ways"] (spWaysWith K)) (bW : Binds K fdw ["word", "text", "place", "ways"] []) (kW : PySem.W.keepIn K (.ref fw) = true) (gW : mg "ways_with" = some (.ref fw))
    (ml : mg "len" = none) (mr : mg "range" = none) (mv : mg "reversed" = none) (ms : mg "sum" = none) : FnOk P w K mg base CX0 (k + 1) f fd ["words", "text"] (spAllWays K) := by
  refine F.ok scAllWays (fun vs H Q E h => ?_) (fun cdv A outer s H vs Q E hr h => ?_)
  · obtain ⟨a, ws, z, rfl, _⟩ := h
    rfl
  · obtain ⟨a, ws, z, rfl, hS, hw, h8, hz, q⟩ := h
    refine ⟨_, pss_cons (ps_set (i := 2) scAllWays.nd rfl (Or.inr rfl) (pe_op op_cat (pe_op op_rep (pe_lst (pa_cons pe_int pa_nil)) (pe_callB call_len_str (by rfl) ml PySem.boot_len (pa_cons (pv 1) pa_nil))) (pe_lst (pa_cons pe_int pa_nil))))
      (pss_cons (ps_for PassesOwn.never rfl (pi_revR (by rfl) mv (prg_1 (by rfl) mr (pe_callB call_len_str (by rfl) ml PySem.boot_len (pa_cons (pv 1) pa_nil)))) (pg_name (i := 3) scAllWays.nd rfl (Or.inr rfl))
        (pss_one (ps_asg (pe_callB (cr_sum rfl) (by rfl) ms (by decide +kernel) (pa_cons (pe_lc (own := [("word", 4)]) (g := gName 4) (tt := tYes) rfl scAllWays.nd (pi_list (pv 0)) (blkOk_by (N := ["words", "text", "ways", "place", "word"]) (sc := defScope sAllWays) (by decide +kernel)) (fun _ _ _ _ _ => pg_name (i := 4) scAllWays.nd rfl (Or.inl rfl)) (fun _ _ _ _ _ => pts_nil)
          (fun _ _ _ _ _ => pe_call G hr (by rfl) gW kW bW .nil pass0 (pa_cons (pv 4) (pa_cons (pv 1) (pa_cons (pv 3) (pa_cons (pv 2) pa_nil)))))) pa_nil)) (pg_sub (pv 2) (pv 3) set_list))))
      (pss_one (ps_ret (pv 2)))), ?_⟩
    have hzs : z.length ≤ sizeLine := Nat.le_trans hz (by decide)
    have hlen := len_list z
    refine ⟨(by show 1 ≤ sizeLine; decide), fun c1 n1 => ?_⟩
    refine ⟨_, rfl, z, rfl, hzs, c1, (z.length : Int), _, rfl, rfl, upd_same, by omega, by omega, ?_, fun c2 n2 => ?_⟩
    · show 1 * ((z.length : Nat) : Int).toNat ≤ sizeLine
      rw [Int.toNat_natCast]
      omega
    have s1 := same_upd (o := .lst [V.int 0]) n1
    have er : (List.replicate ((z.length : Nat) : Int).toNat [V.int 0]).flatten = List.replicate z.length (V.int 0) := by
      rw [Int.toNat_natCast]
      generalize z.length = m
      induction m with
      | zero => rfl
      | succ m ih => rw [List.replicate_succ, List.flatten_cons, ih]; rfl
    rw [er]
    have s2 := same_upd (o := .lst (List.replicate z.length (V.int 0))) n2
    refine ⟨(by show 1 ≤ sizeLine; decide), fun c3 n3 => ?_⟩
    have s3 := same_upd (o := .lst [V.int 1]) n3
    refine ⟨c2, c3, _, _, rfl, rfl, s3 _ _ upd_same, upd_same, ?_, fun wy nwy => ?_⟩
    · rw [List.length_replicate]
      exact Nat.le_trans (show z.length + 1 ≤ 100001 by omega) (by decide)
    have s4 := same_upd (o := .lst (List.replicate z.length (V.int 0) ++ [V.int 1])) nwy
    have s04 := ((s1.trans s2).trans s3).trans s4
    have nwy0 : H wy = none := ((s1.trans s2).trans s3).free nwy
    have hw4 := upd_same (H := upd (upd (upd H c1 (.lst [V.int 0])) c2 (.lst (List.replicate z.length (V.int 0)))) c3 (.lst [V.int 1])) (a := wy) (o := .lst (List.replicate z.length (V.int 0) ++ [V.int 1]))
    generalize upd (upd (upd (upd H c1 (.lst [V.int 0])) c2 (.lst (List.replicate z.length (V.int 0)))) c3 (.lst [V.int 1])) wy (.lst (List.replicate z.length (V.int 0) ++ [V.int 1])) = H4 at s04 hw4 ⊢
    refine ⟨_, rfl, z, rfl, hzs, _, rfl, by omega, by omega, by omega, by omega, ?_⟩
    have en : (((z.length : Nat) : Int) - 0).toNat = z.length := by omega
    rw [en]
    refine for_it (walk_rangeC) (fun k σ H' => ∃ v3 v4 : Option V, σ = [some (.ref a), some (.str z), some (.ref wy), v3, v4] ∧ Same H H' ∧ H' wy = some (.lst (List.replicate (z.length - k) (V.int 0) ++ (wl ws (z.cps.toList.drop (z.length - k))).map fun y => V.int (y : Nat))))
      ⟨none, none, rfl, s04, ?_⟩ (fun _ _ _ _ _ => trivial) ?_ ?_
    · rw [hw4, Nat.sub_zero, List.drop_of_length_le (by omega)]
      rfl
    · rintro k x σ H5 H6 hk ⟨v3, v4, rfl, s5, hwy⟩ ⟨rfl, ex⟩
      have hmlt : z.length - k = (z.length - 1 - k) + 1 := by omega
      have ep : (0 + ((z.length : Nat) : Int) - 1 + ((k : Nat) : Int) * (-1)) = (((z.length - 1 - k : Nat)) : Int) := by omega
      rw [hmlt] at hwy
      generalize hm : z.length - 1 - k = m at ep hwy hmlt
      have hmz : m < z.cps.toList.length := by omega
      have edr := drop_cons hmz
      obtain rfl : x = V.int (m : Nat) := ex.trans (congrArg V.int ep)
      refine ⟨_, rfl, a, rfl, ⟨_, s5.seq hS⟩, fun D hD => ?_⟩
      refine lc_fm walk_list (fun i => some (.int (((if fit (ws.getD i ⟨#[]⟩) (z.cps.toList.drop m) = true then (wl ws (z.cps.toList.drop (m + 1))).getD ((ws.getD i ⟨#[]⟩).length - 1) 0 else 0 : Nat)) : Int))) ?_ hD (fun H' s' => (s5.trans s').seq hS) ?_ ?_
      · rw [List.length_map]
        exact Nat.lt_of_le_of_lt h8 (by decide)
      · rintro i y H7 H8 N hi s7 ⟨rfl, hy⟩ hN
        obtain ⟨x, hx, rfl⟩ := map_at hy
        have exg : ws.getD i ⟨#[]⟩ = x := by rw [List.getD_eq_getElem?_getD, hx]; rfl
        have hN' := hN H8 (Same.refl _)
        rw [exg] at hN'
        obtain ⟨x1, x8⟩ := hw x (List.mem_of_getElem? hx)
        refine ⟨rfl, yesT ?_⟩
        refine ⟨_, rfl, _, rfl, _, rfl, _, rfl, x, z, m, wy, _, rfl, SqL.of (s7 _ _ hwy), x1, by omega, by omega, hz, _, fun hf => ?_, fun hf => ?_, hN'⟩
        · have hfl := fit_len hf
          rw [List.length_drop] at hfl
          rw [if_pos hf, List.getElem?_append_right (by rw [List.length_replicate]; omega), List.length_replicate, List.getElem?_map, show m + x.length - (m + 1) = x.length - 1 by omega]
          have hin : x.length - 1 < (wl ws (z.cps.toList.drop (m + 1))).length := by
            rw [wl_len, List.length_drop]
            omega
          rw [List.getElem?_eq_getElem hin, List.getD_eq_getElem?_getD, List.getElem?_eq_getElem hin]
          rfl
        · rw [if_neg (by rw [hf]; exact Bool.false_ne_true)]
          rfl
      · intro H7 s7 h7
        have ef : fmr (fun i => some (V.int (((if fit (ws.getD i ⟨#[]⟩) (z.cps.toList.drop m) = true then (wl ws (z.cps.toList.drop (m + 1))).getD ((ws.getD i ⟨#[]⟩).length - 1) 0 else 0 : Nat)) : Int))) (ws.map V.str).length =
            ((ws.map fun w => if fit w (z.cps.toList.drop m) = true then (wl ws (z.cps.toList.drop (m + 1))).getD (w.length - 1) 0 else 0).map fun (n : Nat) => (n : Int)).map V.int := by
          rw [fmr_map, List.length_map]
          apply List.ext_getElem
          · simp
          · intro i h1 h2
            simp at h1 h2
            simp [h1]
        rw [ef] at h7
        refine ⟨D, _, rfl, SqL.of h7, ?_⟩
        rw [sum_cast]
        have hw7 := s7 _ _ hwy
        refine ⟨_, rfl, _, rfl, wy, _, _, m, rfl, rfl, hw7, ?_, ?_⟩
        · unfold ixN
          rw [if_pos (by omega), if_pos (by rw [List.length_append, List.length_replicate]; omega)]
          simp
        refine ⟨_, _, rfl, same_set (s5.trans s7) nwy0, ?_⟩
        rw [upd_same, set_mid', show z.length - (k + 1) = m by omega, edr, wl_cons, ← edr]
        rfl
    · rintro σ H5 ⟨v3, v4, rfl, s5, hwy⟩
      rw [Nat.sub_self] at hwy
      exact ⟨_, rfl, q wy H5 nwy0 s5 (by simpa using hwy)⟩
end

/-! ### all readings of a text: the mathematics -/
def rdF (ws : List Str) : Nat → List Nat → List (List Nat)
  | 0, t => if t = [] then [[]] else []
  | n + 1, t => if t = [] then [[]] else (ws.zipIdx.map fun p => if fit p.1 t = true then (rdF ws n (t.drop p.1.length)).map (p.2 :: ·) else []).flatten
theorem wl_drop (ws : List Str) : ∀ (t : List Nat) (k : Nat), k ≤ t.length → (wl ws t).drop k = wl ws (t.drop k)
  | [], k, h => by
    have : k = 0 := by simpa using h
    subst this
    rfl
  | c :: t, 0, _ => rfl
  | c :: t, k + 1, h => by
    rw [wl_cons, List.drop_succ_cons, List.drop_succ_cons]
    exact wl_drop ws t k (by simpa using h)
theorem wl_getD (ws : List Str) {t : List Nat} {k : Nat} (h : k ≤ t.length) : (wl ws t).getD k 0 = (wl ws (t.drop k)).headD 0 := by
  rw [← wl_drop ws t k h]
  rw [List.getD_eq_getElem?_getD, ← List.head?_drop]
  cases (wl ws t).drop k <;> rfl
/-- how many readings begin with a word -/
def eOf (ws : List Str) (t : List Nat) (w : Str) : Nat := if fit w t = true then (wl ws (t.drop w.length)).headD 0 else 0
theorem ent_eq (ws : List Str) (hw : ∀ x ∈ ws, 1 ≤ x.length) {c : Nat} {t : List Nat} : ∀ vs : List Str, (∀ x ∈ vs, 1 ≤ x.length) → (vs.map fun w => if fit w (c :: t) = true then (wl ws t).getD (w.length - 1) 0 else 0) = vs.map (eOf ws (c :: t))
  | [], _ => rfl
  | v :: vs, h => by
    rw [List.map_cons, List.map_cons, ent_eq ws hw vs fun x hx => h x (List.mem_cons_of_mem _ hx)]
    congr 1
    unfold eOf
    by_cases hf : fit v (c :: t) = true
    · rw [if_pos hf, if_pos hf]
      have hl := fit_len hf
      have h1 := h v List.mem_cons_self
      rw [List.length_cons] at hl
      rw [wl_getD ws (by omega)]
      congr 2
      obtain ⟨m, hm⟩ : ∃ m, v.length = m + 1 := ⟨v.length - 1, by omega⟩
      rw [hm, List.drop_succ_cons, Nat.add_sub_cancel]
    · rw [if_neg hf, if_neg hf]
theorem rdF_len (ws : List Str) (hw : ∀ x ∈ ws, 1 ≤ x.length) : ∀ (n : Nat) (t : List Nat), t.length ≤ n → (rdF ws n t).length = (wl ws t).headD 0
  | 0, t, h => by
    have : t = [] := List.length_eq_zero_iff.mp (by omega)
    subst this
    rfl
  | n + 1, [], _ => rfl
  | n + 1, c :: t, h => by
    show ((ws.zipIdx.map fun p => if fit p.1 (c :: t) = true then (rdF ws n ((c :: t).drop p.1.length)).map (p.2 :: ·) else []).flatten).length = _
    rw [wl_cons, List.headD_cons]
    unfold ent
    rw [ent_eq ws hw ws hw, List.length_flatten, List.map_map]
    have e : ∀ (vs : List Str) (k : Nat), (∀ x ∈ vs, 1 ≤ x.length) → ((vs.zipIdx k).map (List.length ∘ fun p => if fit p.1 (c :: t) = true then (rdF ws n ((c :: t).drop p.1.length)).map (p.2 :: ·) else [])) = vs.map (eOf ws (c :: t)) := by
      intro vs
      induction vs with
      | nil => intro k _; rfl
      | cons v vs ih =>
        intro k hv
        rw [List.zipIdx_cons, List.map_cons, List.map_cons, ih (k + 1) fun x hx => hv x (List.mem_cons_of_mem _ hx)]
        congr 1
        show List.length (if fit v (c :: t) = true then _ else _) = eOf ws (c :: t) v
        unfold eOf
        by_cases hf : fit v (c :: t) = true
        · rw [if_pos hf, if_pos hf, List.length_map]
          have h1 := hv v List.mem_cons_self
          refine rdF_len ws hw n _ ?_
          show ((c :: t).drop v.length).length ≤ n
          rw [List.length_drop]
          omega
        · rw [if_neg hf, if_neg hf]
          rfl
    rw [e ws 0 hw]
/-- where an index lies among blocks -/
theorem flat_at {α : Type} : ∀ (bs : List (List α)) (i : Nat), i < bs.flatten.length → ∃ (b k : Nat) (l : List α), bs[b]? = some l ∧ k < l.length ∧ i = ((bs.take b).map List.length).sum + k ∧ bs.flatten[i]? = l[k]?
  | [], i, h => by simp at h
  | l :: bs, i, h => by
    by_cases c : i < l.length
    · exact ⟨0, i, l, rfl, c, by simp, by rw [List.flatten_cons, List.getElem?_append_left c]⟩
    · rw [List.flatten_cons, List.length_append] at h
      obtain ⟨b, k, l', h1, h2, h3, h4⟩ := flat_at bs (i - l.length) (by omega)
      refine ⟨b + 1, k, l', by simpa using h1, h2, ?_, ?_⟩
      · rw [List.take_succ_cons, List.map_cons, List.sum_cons]
        omega
      · rw [List.flatten_cons, List.getElem?_append_right (by omega), h4]
/-- the number of a reading, by what stands ahead of it -/
def idx (ws : List Str) : List Nat → List Nat → Nat
  | _, [] => 0
  | t, i :: r => ((ws.take i).map (eOf ws t)).sum + idx ws (t.drop (ws.getD i ⟨#[]⟩).length) r
theorem rd_nth (ws : List Str) (hw : ∀ x ∈ ws, 1 ≤ x.length) {n : Nat} {c : Nat} {t : List Nat} (h : (c :: t).length ≤ n + 1) {at' : Nat} (ha : at' < (rdF ws (n + 1) (c :: t)).length) :
    ∃ (b k : Nat) (v : Str), ws[b]? = some v ∧ fit v (c :: t) = true ∧ k < eOf ws (c :: t) v ∧ at' = ((ws.take b).map (eOf ws (c :: t))).sum + k ∧ (rdF ws (n + 1) (c :: t))[at']? = ((rdF ws n ((c :: t).drop v.length))[k]?).map (b :: ·) := by
  have er : rdF ws (n + 1) (c :: t) = (ws.zipIdx.map fun p => if fit p.1 (c :: t) = true then (rdF ws n ((c :: t).drop p.1.length)).map (p.2 :: ·) else []).flatten := rfl
  rw [er] at ha ⊢
  obtain ⟨b, k, l, h1, h2, h3, h4⟩ := flat_at _ _ ha
  rw [List.getElem?_map] at h1
  have hz : ws.zipIdx[b]? = (ws[b]?).map fun v => (v, b) := by simp
  rw [hz] at h1
  cases hv : ws[b]? with
  | none =>
    rw [hv] at h1
    cases h1
  | some v =>
    rw [hv] at h1
    have el := Option.some.inj h1
    dsimp only at el
    by_cases hf : fit v (c :: t) = true
    · rw [if_pos hf] at el
      subst el
      have hv1 := hw v (List.mem_of_getElem? hv)
      have hlen : (rdF ws n ((c :: t).drop v.length)).length = eOf ws (c :: t) v := by
        unfold eOf
        rw [if_pos hf]
        refine rdF_len ws hw n _ ?_
        rw [List.length_drop]
        omega
      refine ⟨b, k, v, hv, hf, ?_, ?_, ?_⟩
      · rw [List.length_map, hlen] at h2
        exact h2
      · rw [h3]
        congr 1
        rw [← List.map_take, List.map_map]
        have e : ∀ (vs : List Str) (j m : Nat), (∀ x ∈ vs, 1 ≤ x.length) → (((vs.zipIdx j).take m).map (List.length ∘ fun p => if fit p.1 (c :: t) = true then (rdF ws n ((c :: t).drop p.1.length)).map (p.2 :: ·) else [])) = (vs.take m).map (eOf ws (c :: t)) := by
          intro vs
          induction vs with
          | nil => intro j m _; simp
          | cons u vs ih =>
            intro j m hu
            cases m with
            | zero => rfl
            | succ m =>
              rw [List.zipIdx_cons, List.take_succ_cons, List.take_succ_cons, List.map_cons, List.map_cons, ih (j + 1) m fun x hx => hu x (List.mem_cons_of_mem _ hx)]
              congr 1
              show List.length (if fit u (c :: t) = true then _ else _) = eOf ws (c :: t) u
              unfold eOf
              by_cases hg : fit u (c :: t) = true
              · rw [if_pos hg, if_pos hg, List.length_map]
                have u1 := hu u List.mem_cons_self
                refine rdF_len ws hw n _ ?_
                show ((c :: t).drop u.length).length ≤ n
                rw [List.length_drop]
                omega
              · rw [if_neg hg, if_neg hg]
                rfl
        rw [e ws 0 b hw]
      · rw [h4, List.getElem?_map]
    · rw [if_neg hf] at el
      subst el
      simp at h2
/-- the index of a reading is its place -/
theorem idx_nth (ws : List Str) (hw : ∀ x ∈ ws, 1 ≤ x.length) : ∀ (n : Nat) (t : List Nat), t.length ≤ n → ∀ (at' : Nat) (row : List Nat), (rdF ws n t)[at']? = some row → idx ws t row = at'
  | 0, t, h, at', row, hr => by
    have e : t = [] := List.length_eq_zero_iff.mp (by omega)
    subst e
    have hr' : ([[]] : List (List Nat))[at']? = some row := hr
    cases at' with
    | zero =>
      have e2 : [] = row := Option.some.inj hr'
      subst e2
      rfl
    | succ k => simp at hr'
  | n + 1, [], h, at', row, hr => by
    have hr' : ([[]] : List (List Nat))[at']? = some row := hr
    cases at' with
    | zero =>
      have e2 : [] = row := Option.some.inj hr'
      subst e2
      rfl
    | succ k => simp at hr'
  | n + 1, c :: t, h, at', row, hr => by
    have ha := (List.getElem?_eq_some_iff.mp hr).1
    obtain ⟨b, k, v, h1, h2, h3, h4, h5⟩ := rd_nth ws hw h ha
    rw [h5] at hr
    cases hk : (rdF ws n ((c :: t).drop v.length))[k]? with
    | none =>
      rw [hk] at hr
      cases hr
    | some r =>
      rw [hk] at hr
      have e : b :: r = row := Option.some.inj hr
      subst e
      have v1 := hw v (List.mem_of_getElem? h1)
      have ih := idx_nth ws hw n ((c :: t).drop v.length) (by rw [List.length_drop]; omega) k r hk
      show ((ws.take b).map (eOf ws (c :: t))).sum + idx ws ((c :: t).drop (ws.getD b ⟨#[]⟩).length) r = at'
      have eg : ws.getD b ⟨#[]⟩ = v := by rw [List.getD_eq_getElem?_getD, h1]; rfl
      rw [eg, ih, h4]


/-! ### count_readings, is_text, word_at_index, nth_reading -/
def cnt (ws : List Str) (z : Str) : Nat := (wl ws z.cps.toList).headD 0
theorem wl_head {ws : List Str} {z : Str} : (((wl ws z.cps.toList).map fun y => V.int (y : Nat)))[0]? = some (.int ((cnt ws z : Nat) : Int)) := by
  unfold cnt
  cases h : wl ws z.cps.toList with
  | nil =>
    have := wl_len ws z.cps.toList
    rw [h] at this
    simp at this
  | cons a b => rfl
theorem good_len {ws : List Str} (g : Good ws) : ∀ x ∈ ws, 1 ≤ x.length ∧ x.length ≤ 8 := fun x hx => isW_len (g.w x hx)
/-- an entry of the list of ways -/
theorem ways_at {ws : List Str} {z : Str} {j : Nat} (h : j ≤ z.length) : (((wl ws z.cps.toList).map fun y => V.int (y : Nat)))[j]? = some (.int (((wl ws (z.cps.toList.drop j)).headD 0 : Nat) : Int)) := by
  have hz := len_list z
  rw [List.getElem?_map, ← wl_getD ws (by omega)]
  have hl : j < (wl ws z.cps.toList).length := by
    rw [wl_len]
    omega
  rw [List.getD_eq_getElem?_getD, List.getElem?_eq_getElem hl]
  rfl
section
variable {P : Program} {w : World} {K : PySem.W.Frag} {mg : Str → Option Value} {base : Heap}
theorem scCount : FnScope ["stock", "text"] ["stock", "text"] (defScope sCount) := ⟨rfl, rfl, rfl, by decide +kernel, rfl, by decide +kernel, by decide +kernel⟩
def spCount (C : Addr) : Sp := fun vs H Q _ => ∃ (p : Addr) (ws : List Str) (z : Str), vs = [.ref p, .str z] ∧ StkAt C H p ws ∧ Good ws ∧ isL z = true ∧ z.length ≤ 100000 ∧ ∀ H', Same H H' → Q (.int ((cnt ws z : Nat) : Int)) H'
theorem ok_count {f C fi fe fw fc fa : Addr} {fd fdw fdc fda : FuncData} {k : Nat} (F : Fun K "count_readings" "count_readings" sCount f fd) (T : StkC K mg C fi fe fw) (Gw : FnOk P w K mg base CX0 k fw fdw ["self"] (spSWords C)) (bw : Binds K fdw ["self"] [])
    (GC : FnOk P w K mg base CX0 k fc fdc ["text"] spCheckText) (bC : Binds K fdc ["text"] []) (kC : PySem.W.keepIn K (.ref fc) = true) (gC : mg "check_text" = some (.ref fc))
    (GA : FnOk P w K mg base CX0 k fa fda ["words", "text"] (spAllWays K)) (bA : Binds K fda ["words", "text"] []) (kA : PySem.W.keepIn K (.ref fa) = true) (gA : mg "all_ways" = some (.ref fa)) : FnOk P w K mg base CX0 (k + 2) f fd ["stock", "text"] (spCount C) := by
  refine F.ok scCount (fun vs H Q E h => ?_) (fun cdv A outer s H vs Q E hr h => ?_)
  · obtain ⟨p, ws, z, rfl, _⟩ := h
    rfl
  · obtain ⟨p, ws, z, rfl, st, g, hL, hz, q⟩ := h
    obtain ⟨pp, hpp⟩ := T.prop
    have hr0 : Room k _ := hr.mono (Nat.le_succ k)
    refine ⟨_, pss_cons (ps_expr (pe_call GC hr0 (by rfl) gC kC bC .nil pass0 (pa_cons (pv 1) pa_nil)))
      (pss_one (ps_ret (pe_ix ix_list (pe_call GA hr0 (by rfl) gA kA bA .nil pass0 (pa_cons (pe_prop (pv 0) T.cl hpp Gw hr bw .nil pass0 rfl) (pa_cons (pv 1) pa_nil))) pe_int (fun _ _ => rfl)))), ?_⟩
    refine ⟨_, rfl, z, rfl, hz, hL, fun H1 s1 => ?_⟩
    obtain ⟨dx, t, e1, e2⟩ := id (st.same s1)
    refine ⟨_, rfl, p, dx, _, rfl, e1, p, ws, rfl, st.same s1, fun l H2 nl s2 h2 => ?_⟩
    refine ⟨_, rfl, l, ws, z, rfl, SqL.of h2, good_len g, g.hi, hz, fun wy H3 nw s3 h3 => ?_⟩
    exact ⟨wy, _, _, _, rfl, rfl, SqL.of h3, atI_nat (j := 0) wl_head, q H3 ((s1.trans s2).trans s3)⟩
theorem scIsText : FnScope ["stock", "text"] ["stock", "text"] (defScope sIsText) := ⟨rfl, rfl, rfl, by decide +kernel, rfl, by decide +kernel, by decide +kernel⟩
def spIsText (C : Addr) : Sp := fun vs H Q _ => ∃ (p : Addr) (ws : List Str) (z : Str), vs = [.ref p, .str z] ∧ StkAt C H p ws ∧ Good ws ∧ isL z = true ∧ z.length ≤ 100000 ∧ ∀ H', Same H H' → Q (.bl (decide (0 < cnt ws z))) H'
theorem ok_isText {f C fc : Addr} {fd fdc : FuncData} {k : Nat} (F : Fun K "is_text" "is_text" sIsText f fd) (GC : FnOk P w K mg base CX0 k fc fdc ["stock", "text"] (spCount C)) (bC : Binds K fdc ["stock", "text"] []) (kC : PySem.W.keepIn K (.ref fc) = true) (gC : mg "count_readings" = some (.ref fc)) :
    FnOk P w K mg base CX0 (k + 1) f fd ["stock", "text"] (spIsText C) := by
  refine F.ok scIsText (fun vs H Q E h => ?_) (fun cdv A outer s H vs Q E hr h => ?_)
  · obtain ⟨p, ws, z, rfl, _⟩ := h
    rfl
  · obtain ⟨p, ws, z, rfl, st, g, hL, hz, q⟩ := h
    refine ⟨_, pss_one (ps_ret (pe_cmpR op_gt (pe_call GC hr (by rfl) gC kC bC .nil pass0 (pa_cons (pv 0) (pa_cons (pv 1) pa_nil))) pe_int (nomark _))), ?_⟩
    refine ⟨_, rfl, _, rfl, p, ws, z, rfl, st, g, hL, hz, fun H' s' => ⟨_, _, rfl, rfl, ?_⟩⟩
    have e : decide ((0 : Int) < ((cnt ws z : Nat) : Int)) = decide (0 < cnt ws z) := by
      by_cases c : 0 < cnt ws z
      · rw [decide_eq_true c, decide_eq_true (by omega)]
      · rw [decide_eq_false c, decide_eq_false (by omega)]
    show Q (.bl (decide ((0 : Int) < ((cnt ws z : Nat) : Int)))) H'
    rw [e]
    exact q H' s'
theorem scWordAt : FnScope ["words", "text", "place", "ways", "index", "number", "left", "many"] ["words", "text", "place", "ways", "index"] (defScope sWordAt) := ⟨rfl, rfl, rfl, by decide +kernel, rfl, by decide +kernel, by decide +kernel⟩
/-- ways_with at a word: eOf -/
theorem ways_eOf {ws : List Str} {z x : Str} {m : Nat} (hm : m < z.length) :
    (fit x (z.cps.toList.drop m) = true → (((wl ws z.cps.toList).map fun y => V.int (y : Nat)))[m + x.length]? = some (.int ((eOf ws (z.cps.toList.drop m) x : Nat) : Int))) ∧ (fit x (z.cps.toList.drop m) = false → ((eOf ws (z.cps.toList.drop m) x : Nat) : Int) = 0) := by
  have hz := len_list z
  refine ⟨fun hf => ?_, fun hf => ?_⟩
  · unfold eOf
    rw [if_pos hf, List.drop_drop]
    refine ways_at ?_
    have := fit_len hf
    rw [List.length_drop] at this
    omega
  · unfold eOf
    rw [if_neg (by rw [hf]; exact Bool.false_ne_true)]
    rfl
theorem sum_take_mono {α : Type} (f : α → Nat) (l : List α) {i j : Nat} (h : i ≤ j) : ((l.take i).map f).sum ≤ ((l.take j).map f).sum := by
  have e : l.take j = l.take i ++ (l.drop i).take (j - i) := by
    rw [← List.take_add]
    congr 1
    omega
  rw [e, List.map_append, List.sum_append]
  omega
def spWordAt (K : PySem.W.Frag) : Sp := fun vs H Q _ => ∃ (a wy : Addr) (ws : List Str) (z : Str) (m i : Nat), vs = [.ref a, .str z, .int m, .ref wy, .int i] ∧ SqL K H a (ws.map V.str) ∧ SqL K H wy ((wl ws z.cps.toList).map fun y => V.int (y : Nat)) ∧ (∀ x ∈ ws, 1 ≤ x.length ∧ x.length ≤ 8) ∧ m < z.length ∧ z.length ≤ 100000 ∧
  (∃ (b k : Nat) (v : Str), ws[b]? = some v ∧ k < eOf ws (z.cps.toList.drop m) v ∧ i = ((ws.take b).map (eOf ws (z.cps.toList.drop m))).sum + k ∧ ∀ tp H', H tp = none → Same H H' → H' tp = some (.tup [.int b, .int k]) → Q (.ref tp) H')
theorem ok_wordAt {f fw : Addr} {fd fdw : FuncData} {k0 : Nat} (F : Fun K "word_at_index" "word_at_index" sWordAt f fd) (G : FnOk P w K mg base CX0 k0 fw fdw ["word", "text", "place", "ways"] (spWaysWith K)) (bW : Binds K fdw ["word", "text", "place", "ways"] []) (kW : PySem.W.keepIn K (.ref fw) = true) (gW : mg "ways_with" = some (.ref fw)) :
    FnOk P w K mg base CX0 (k0 + 1) f fd ["words", "text", "place", "ways", "index"] (spWordAt K) := by
  refine F.ok scWordAt (fun vs H Q E h => ?_) (fun cdv A outer s H vs Q E hr h => ?_)
  · obtain ⟨a, wy, ws, z, m, i, rfl, _⟩ := h
    rfl
  · obtain ⟨a, wy, ws, z, m, i, rfl, hS, hY, hw, hm, hz, b, k, v, hv, hk, hi, q⟩ := h
    refine ⟨_, (pss_cons (ps_set (i := 5) scWordAt.nd rfl (Or.inl rfl) pe_int)
      (pss_cons (ps_set (i := 6) scWordAt.nd rfl (Or.inl rfl) (pv 4))
      (pss_cons (ps_set (i := 7) scWordAt.nd rfl (Or.inl rfl) (pe_call G hr (by rfl) gW kW bW .nil pass0 (pa_cons (pe_ix ix_list (pv 0) pe_int (fun _ _ => rfl)) (pa_cons (pv 1) (pa_cons (pv 2) (pa_cons (pv 3) pa_nil))))))
      (pss_cons (ps_while PassesOwn.never (pt_cmpR op_ge (pv 6) (pv 7) (nomark _)) (pss_cons (ps_aug (i := 6) scWordAt.nd rfl (Or.inl rfl) (pv 7) ip_sub)
      (pss_cons (ps_aug (i := 5) scWordAt.nd rfl (Or.inl rfl) pe_int ip_add)
      (pss_one (ps_set (i := 7) scWordAt.nd rfl (Or.inl rfl) (pe_call G hr (by rfl) gW kW bW .nil pass0 (pa_cons (pe_ix ix_list (pv 0) (pv 5) (fun _ _ => rfl)) (pa_cons (pv 1) (pa_cons (pv 2) (pa_cons (pv 3) pa_nil))))))))))
      (pss_one (ps_ret (pe_tup (pa_cons (pv 5) (pa_cons (pv 6) pa_nil))))))))), ?_⟩
    have hb : b < ws.length := (List.getElem?_eq_some_iff.mp hv).1
    have h0 : ∃ x, ws[0]? = some x := ⟨ws[0], List.getElem?_eq_getElem (by omega)⟩
    obtain ⟨x0, hx0⟩ := h0
    obtain ⟨x01, x08⟩ := hw x0 (List.mem_of_getElem? hx0)
    refine ⟨_, rfl, _, rfl, a, _, _, _, rfl, rfl, hS, atI_nat (j := 0) (by rw [List.getElem?_map, hx0]; rfl), _, rfl, _, rfl, _, rfl, x0, z, m, wy, _, rfl, hY, x01, Nat.le_trans x08 (by decide), Nat.le_of_lt hm, hz, _, (ways_eOf hm).1, (ways_eOf hm).2, ?_⟩
    refine ⟨fun μ σ H' => ∃ (n l : Nat) (x : Str), σ = [some (.ref a), some (.str z), some (.int m), some (.ref wy), some (.int i), some (.int n), some (.int l), some (.int ((eOf ws (z.cps.toList.drop m) x : Nat) : Int))] ∧ Same H H' ∧ ws[n]? = some x ∧ n ≤ b ∧ i = ((ws.take n).map (eOf ws (z.cps.toList.drop m))).sum + l ∧ μ = b - n, ⟨_, 0, i, x0, rfl, Same.refl _, hx0, Nat.zero_le _, by simp, rfl⟩, ?_⟩
    rintro μ σ H1 ⟨n, l, x, rfl, s1, hn, hnb, hil, rfl⟩
    refine ⟨_, rfl, _, rfl, _, _, rfl, rfl, ?_⟩
    rcases Nat.lt_or_ge n b with c | c
    · have em := sum_take_mono (eOf ws (z.cps.toList.drop m)) ws (i := n + 1) (j := b) c
      rw [take_snoc hn, List.map_append, List.sum_append, List.map_singleton, List.sum_singleton] at em
      have hle : eOf ws (z.cps.toList.drop m) x ≤ l := by omega
      refine ⟨_, by show V.bl (decide (((eOf ws (z.cps.toList.drop m) x : Nat) : Int) ≤ (l : Int))) = V.bl true; rw [decide_eq_true (by omega)], ?_⟩
      refine iteT ⟨_, fun _ _ h => h, ?_⟩
      obtain ⟨x', hx'⟩ : ∃ x, ws[n + 1]? = some x := ⟨ws[n + 1], List.getElem?_eq_getElem (by omega)⟩
      obtain ⟨y1, y8⟩ := hw x' (List.mem_of_getElem? hx')
      refine ⟨_, rfl, _, rfl, _, _, rfl, rfl, _, rfl, _, _, rfl, rfl, ?_⟩
      refine ⟨_, rfl, _, rfl, a, _, _, _, rfl, rfl, s1.seq hS, atI_nat (j := n + 1) (by rw [List.getElem?_map, hx']; rfl), _, rfl, _, rfl, _, rfl, x', z, m, wy, _, rfl, s1.seq hY, y1, Nat.le_trans y8 (by decide), Nat.le_of_lt hm, hz, _, (ways_eOf hm).1, (ways_eOf hm).2, ?_⟩
      refine ⟨b - (n + 1), by omega, n + 1, l - eOf ws (z.cps.toList.drop m) x, x', ?_, s1, hx', c, ?_, rfl⟩
      · rw [Int.ofNat_sub hle]
        rfl
      · rw [take_snoc hn, List.map_append, List.sum_append, List.map_singleton, List.sum_singleton]
        omega
    · have enb : n = b := by omega
      subst enb
      have exv : x = v := by
        rw [hv] at hn
        exact (Option.some.inj hn).symm
      subst exv
      have elk : l = k := by omega
      subst elk
      refine ⟨_, by show V.bl (decide (((eOf ws (z.cps.toList.drop m) x : Nat) : Int) ≤ (l : Int))) = V.bl false; rw [decide_eq_false (by omega)], ?_⟩
      refine iteF ⟨_, rfl, _, rfl, ?_⟩
      exact ⟨(by show 2 ≤ sizeLine; decide), fun p hp => q p _ (s1.free hp) (s1.trans (same_upd hp)) upd_same⟩
end


/-! ### all readings, whatever the fuel -/
theorem rdF_fuel (ws : List Str) (hw : ∀ x ∈ ws, 1 ≤ x.length) : ∀ (n m : Nat) (t : List Nat), t.length ≤ n → t.length ≤ m → rdF ws n t = rdF ws m t
  | 0, m, t, hn, _ => by
    have e : t = [] := List.length_eq_zero_iff.mp (by omega)
    subst e
    cases m <;> rfl
  | n + 1, m, [], _, _ => by cases m <;> rfl
  | n + 1, 0, c :: t, _, hm => by simp at hm
  | n + 1, m + 1, c :: t, hn, hm => by
    show (ws.zipIdx.map fun p => if fit p.1 (c :: t) = true then (rdF ws n ((c :: t).drop p.1.length)).map (p.2 :: ·) else []).flatten = (ws.zipIdx.map fun p => if fit p.1 (c :: t) = true then (rdF ws m ((c :: t).drop p.1.length)).map (p.2 :: ·) else []).flatten
    congr 1
    refine List.map_congr_left fun p hp => ?_
    have h1 := hw p.1 (List.fst_mem_of_mem_zipIdx hp)
    have hl : ((c :: t).drop p.1.length).length ≤ n ∧ ((c :: t).drop p.1.length).length ≤ m := by
      rw [List.length_drop]
      omega
    rw [rdF_fuel ws hw n m _ hl.1 hl.2]
def RD (ws : List Str) (t : List Nat) : List (List Nat) := rdF ws t.length t
theorem RD_nil (ws : List Str) : RD ws [] = [[]] := rfl
theorem RD_len {ws : List Str} (hw : ∀ x ∈ ws, 1 ≤ x.length) (t : List Nat) : (RD ws t).length = (wl ws t).headD 0 := rdF_len ws hw _ t (Nat.le_refl _)
theorem RD_nth {ws : List Str} (hw : ∀ x ∈ ws, 1 ≤ x.length) {t : List Nat} (ht : t ≠ []) {at' : Nat} {row : List Nat} (h : (RD ws t)[at']? = some row) :
    ∃ (b k : Nat) (v : Str) (rest : List Nat), ws[b]? = some v ∧ fit v t = true ∧ k < eOf ws t v ∧ at' = ((ws.take b).map (eOf ws t)).sum + k ∧ row = b :: rest ∧ (RD ws (t.drop v.length))[k]? = some rest := by
  cases t with
  | nil => exact absurd rfl ht
  | cons c t =>
    have ha := (List.getElem?_eq_some_iff.mp h).1
    obtain ⟨b, k, v, h1, h2, h3, h4, h5⟩ := rd_nth ws hw (n := t.length) (c := c) (t := t) (Nat.le_refl _) (at' := at') ha
    have h' : (rdF ws (t.length + 1) (c :: t))[at']? = some row := h
    rw [h5] at h'
    cases hk : (rdF ws t.length ((c :: t).drop v.length))[k]? with
    | none =>
      rw [hk] at h'
      cases h'
    | some r =>
      rw [hk] at h'
      refine ⟨b, k, v, r, h1, h2, h3, h4, (Option.some.inj h').symm, ?_⟩
      have v1 := hw v (List.mem_of_getElem? h1)
      unfold RD
      rw [rdF_fuel ws hw _ t.length _ (Nat.le_refl _) (by rw [List.length_drop, List.length_cons]; omega)]
      exact hk
theorem RD_run {ws : List Str} (hw : ∀ x ∈ ws, 1 ≤ x.length) : ∀ (n : Nat) (t : List Nat), t.length ≤ n → ∀ (at' : Nat) (row : List Nat), (RD ws t)[at']? = some row → (∀ i ∈ row, i < ws.length) ∧ (row.map fun i => (ws.getD i ⟨#[]⟩).cps.toList).flatten = t
  | n, [], _, at', row, h => by
    rw [RD_nil] at h
    cases at' with
    | zero =>
      have e : [] = row := Option.some.inj h
      subst e
      exact ⟨fun i hi => absurd hi List.not_mem_nil, rfl⟩
    | succ k => simp at h
  | 0, c :: t, hn, _, _, _ => by simp at hn
  | n + 1, c :: t, hn, at', row, h => by
    obtain ⟨b, k, v, rest, h1, h2, _, _, rfl, h5⟩ := RD_nth hw (List.cons_ne_nil _ _) h
    have v1 := hw v (List.mem_of_getElem? h1)
    obtain ⟨g1, g2⟩ := RD_run hw n ((c :: t).drop v.length) (by rw [List.length_drop]; omega) k rest h5
    refine ⟨fun i hi => ?_, ?_⟩
    · rcases List.mem_cons.mp hi with e | e
      · subst e
        exact (List.getElem?_eq_some_iff.mp h1).1
      · exact g1 i e
    · rw [List.map_cons, List.flatten_cons, g2]
      have eg : ws.getD b ⟨#[]⟩ = v := by rw [List.getD_eq_getElem?_getD, h1]; rfl
      rw [eg]
      unfold fit at h2
      have e := eq_of_beq h2
      rw [← e, List.take_append_drop]
theorem RD_idx {ws : List Str} (hw : ∀ x ∈ ws, 1 ≤ x.length) {t : List Nat} {at' : Nat} {row : List Nat} (h : (RD ws t)[at']? = some row) : idx ws t row = at' := idx_nth ws hw _ t (Nat.le_refl _) at' row h
theorem RD_row_len {ws : List Str} (hw : ∀ x ∈ ws, 1 ≤ x.length) : ∀ (n : Nat) (t : List Nat), t.length ≤ n → ∀ (at' : Nat) (row : List Nat), (RD ws t)[at']? = some row → row.length ≤ t.length
  | n, [], _, at', row, h => by
    rw [RD_nil] at h
    cases at' with
    | zero =>
      have e : [] = row := Option.some.inj h
      subst e
      exact Nat.le_refl _
    | succ k => simp at h
  | 0, c :: t, hn, _, _, _ => by simp at hn
  | n + 1, c :: t, hn, at', row, h => by
    obtain ⟨b, k, v, rest, h1, h2, _, _, rfl, h5⟩ := RD_nth hw (List.cons_ne_nil _ _) h
    have v1 := hw v (List.mem_of_getElem? h1)
    have ih := RD_row_len hw n ((c :: t).drop v.length) (by rw [List.length_drop]; omega) k rest h5
    rw [List.length_drop] at ih
    rw [List.length_cons]
    simp only [List.length_cons] at ih ⊢
    omega

structure Cal (P : Program) (w : World) (K : PySem.W.Frag) (mg : Str → Option Value) (base : Heap) (k : Nat) (x : Str) (ps : List Str) (sp : Sp) (f : Addr) (fd : FuncData) : Prop where
  G : FnOk P w K mg base CX0 k f fd ps sp
  b : Binds K fd ps []
  k : PySem.W.keepIn K (.ref f) = true
  g : mg x = some (.ref f)
def rowOk (m : Nat) (n : Int) : Bool := decide (0 ≤ n) && decide (n < (m : Int))
def run (ws : List Str) (ns : List Int) : Str := catS (ns.map fun n => ws.getD n.toNat ⟨#[]⟩)
theorem int_at {ns : List Int} {i : Nat} {y : V} (h : (ns.map V.int)[i]? = some y) : ∃ x, ns[i]? = some x ∧ y = .int x := by
  rw [List.getElem?_map] at h
  cases e : ns[i]? with
  | none =>
    rw [e] at h
    cases h
  | some x =>
    rw [e] at h
    exact ⟨x, rfl, (Option.some.inj h).symm⟩
theorem run_len {ws : List Str} (h8 : ∀ x ∈ ws, x.length ≤ 8) : ∀ (ns : List Int), ((ns.map fun n => ws.getD n.toNat ⟨#[]⟩).map (·.length)).sum ≤ 8 * ns.length
  | [] => by simp
  | n :: r => by
    have ih := run_len h8 r
    have h1 : (ws.getD n.toNat ⟨#[]⟩).length ≤ 8 := by
      rw [List.getD_eq_getElem?_getD]
      cases e : ws[n.toNat]? with
      | none => show (0 : Nat) ≤ 8; omega
      | some x => exact h8 x (List.mem_of_getElem? e)
    simp only [List.map_cons, List.sum_cons, List.length_cons]
    omega
theorem row_at {ws : List Str} {n : Int} (h : rowOk ws.length n = true) : ∃ x, atI (ws.map V.str) n = some (.str x) ∧ ws.getD n.toNat ⟨#[]⟩ = x := by
  unfold rowOk at h
  simp only [Bool.and_eq_true, decide_eq_true_eq] at h
  obtain ⟨x, h1, h2, h3⟩ := at_strs (ss := ws) h.1 h.2
  exact ⟨x, h1, by rw [List.getD_eq_getElem?_getD, h3]; rfl⟩
section
variable {P : Program} {w : World} {K : PySem.W.Frag} {mg : Str → Option Value} {base : Heap}
/-! ### joined of right rows -/
theorem scCheckReading : FnScope ["stock", "reading", "many", "number"] ["stock", "reading"] (defScope sCheckReading) := ⟨rfl, rfl, rfl, by decide +kernel, rfl, by decide +kernel, by decide +kernel⟩
def spCheckReadingQ (K : PySem.W.Frag) (C : Addr) : Sp := fun vs H Q _ => ∃ (p r : Addr) (ws : List Str) (ns : List Int), vs = [.ref p, .ref r] ∧ StkAt C H p ws ∧ SqL K H r (ns.map V.int) ∧ (∀ n ∈ ns, rowOk ws.length n = true) ∧ ∀ H', Same H H' → Q .non H'
theorem ok_checkReadingQ {f C fi fe fw : Addr} {fd fdw : FuncData} (F : Fun K "check_reading" "check_reading" sCheckReading f fd) (B : Bu mg) (T : StkC K mg C fi fe fw) (Gw : FnOk P w K mg base CX0 1 fw fdw ["self"] (spSWords C)) (bw : Binds K fdw ["self"] []) : FnOk P w K mg base CX0 3 f fd ["stock", "reading"] (spCheckReadingQ K C) := by
  refine F.ok scCheckReading (fun vs H Q E h => ?_) (fun cdv A outer s H vs Q E hr h => ?_)
  · obtain ⟨p, r, ws, ns, rfl, _⟩ := h
    rfl
  · obtain ⟨p, r, ws, ns, rfl, st, hS, ok, q⟩ := h
    obtain ⟨pp, hpp⟩ := T.prop
    have hr1 : Room 2 _ := hr.mono (by decide)
    refine ⟨_, (pss_cons (ps_set (i := 2) scCheckReading.nd rfl (Or.inl rfl) (pe_callB call_len_seq (by rfl) B.len PySem.boot_len (pa_cons (pe_prop (pv 0) T.cl hpp Gw hr1 bw .nil pass0 rfl) pa_nil)))
      (pss_one (ps_for PassesOwn.never rfl (pi_list (pv 1)) (pg_name (i := 3) scCheckReading.nd rfl (Or.inl rfl)) (pss_one (ps_if (pt_not (pt_chain op_le op_lt pe_int (pv 3) (pv 2))) (pss_one ps_never) pss_nil))))), ?_⟩
    obtain ⟨dx, t, e1, e2⟩ := id st
    refine ⟨_, rfl, p, dx, _, rfl, e1, p, ws, rfl, st, fun l H1 nl s1 hl => ⟨l, _, rfl, .inl (SqL.of hl), ?_⟩⟩
    refine ⟨_, rfl, r, rfl, ⟨_, s1.seq hS⟩, for_list (K := K) (a := r) (xs := ns.map V.int) (fun i σ H' => ∃ v : Option V, σ = [some (.ref p), some (.ref r), some (.int (((ws.map V.str).length : Nat) : Int)), v] ∧ Same H H')
      ⟨none, rfl, s1⟩ (fun i σ H' _ ⟨_, _, s'⟩ => s'.seq hS) ?_ ?_⟩
    · rintro i y σ H' hi ⟨v, rfl, s'⟩
      obtain ⟨n, hn, rfl⟩ := int_at hi
      have hk := ok n (List.mem_of_getElem? hn)
      unfold rowOk at hk
      simp only [Bool.and_eq_true, decide_eq_true_eq] at hk
      have el : (((ws.map V.str).length : Nat) : Int) = (ws.length : Int) := by rw [List.length_map]
      refine ⟨_, rfl, _, _, rfl, rfl, _, rfl, ?_⟩
      rw [decide_eq_true hk.1]
      refine iteT ?_
      refine ⟨_, rfl, _, _, rfl, rfl, _, rfl, ?_⟩
      rw [decide_eq_true (show n < (((ws.map V.str).length : Nat) : Int) by omega)]
      exact iteF ⟨_, rfl, s'⟩
    · rintro σ H' ⟨v, rfl, s'⟩
      exact q H' s'
theorem scJoined : FnScope ["stock", "reading", "words", "number"] ["stock", "reading"] (defScope sJoined) := ⟨rfl, rfl, rfl, by decide +kernel, rfl, by decide +kernel, by decide +kernel⟩
def spJoinedQ (K : PySem.W.Frag) (C : Addr) : Sp := fun vs H Q _ => ∃ (p r : Addr) (ws : List Str) (ns : List Int), vs = [.ref p, .ref r] ∧ StkAt C H p ws ∧ Good ws ∧ SqL K H r (ns.map V.int) ∧ ns.length ≤ 100000 ∧ (∀ n ∈ ns, rowOk ws.length n = true) ∧ ∀ H', Same H H' → Q (.str (run ws ns)) H'
theorem ok_joinedQ {f C fi fe fw fc : Addr} {fd fdw fdc : FuncData} (F : Fun K "joined" "joined" sJoined f fd) (B : Bu mg) (T : StkC K mg C fi fe fw) (CR : Cal P w K mg base 3 "check_reading" ["stock", "reading"] (spCheckReadingQ K C) fc fdc) (Gw : FnOk P w K mg base CX0 1 fw fdw ["self"] (spSWords C)) (bw : Binds K fdw ["self"] []) :
    FnOk P w K mg base CX0 4 f fd ["stock", "reading"] (spJoinedQ K C) := by
  refine F.ok scJoined (fun vs H Q E h => ?_) (fun cdv A outer s H vs Q E hr h => ?_)
  · obtain ⟨p, r, ws, ns, rfl, _⟩ := h
    rfl
  · obtain ⟨p, r, ws, ns, rfl, st, g, hS, hl, ok, q⟩ := h
    obtain ⟨pp, hpp⟩ := T.prop
    have hr2 : Room 3 _ := hr.mono (by decide)
    have hr1 : Room 2 _ := hr.mono (by decide)
    refine ⟨_, (pss_cons (ps_expr (pe_call CR.G hr2 (by rfl) CR.g CR.k CR.b .nil pass0 (pa_cons (pv 0) (pa_cons (pv 1) pa_nil))))
      (pss_cons (ps_set (i := 2) scJoined.nd rfl (Or.inr rfl) (pe_prop (pv 0) T.cl hpp Gw hr1 bw .nil pass0 rfl))
      (pss_one (ps_ret (pe_join pe_str (pe_lc (own := [("number", 3)]) (g := gName 3) (tt := tYes) rfl scJoined.nd (pi_list (pv 1)) (blkOk_by (N := ["stock", "reading", "words", "number"]) (sc := defScope sJoined) (by decide +kernel)) (fun _ _ _ _ _ => pg_name (i := 3) scJoined.nd rfl (Or.inl rfl)) (fun _ _ _ _ _ => pts_nil) (fun _ _ _ _ _ => (pe_ix (show IxR _ (rIxL K) from ix_list) (pv 2) (pv 3) (fun _ _ => rfl))))))))), ?_⟩
    refine ⟨_, rfl, _, rfl, p, r, ws, ns, rfl, st, hS, ok, fun H1 s1 => ?_⟩
    obtain ⟨dx, t, e1, e2⟩ := id (st.same s1)
    refine ⟨_, rfl, p, dx, _, rfl, e1, p, ws, rfl, st.same s1, fun l H2 nl s2 h2 => ?_⟩
    refine ⟨⟨_, rfl⟩, _, rfl, r, rfl, ⟨_, (s1.trans s2).seq hS⟩, fun D hD => ?_⟩
    refine lc_fm walk_list (fun i => some (.str (ws.getD (ns.getD i 0).toNat ⟨#[]⟩))) ?_ hD (fun H' s' => ((s1.trans s2).trans s').seq hS) ?_ ?_
    · rw [List.length_map]
      exact Nat.lt_of_le_of_lt hl (by decide)
    · rintro i y H3 H4 N hi s3 ⟨rfl, hy⟩ hN
      obtain ⟨n, hn, rfl⟩ := int_at hy
      obtain ⟨x, hx, ex⟩ := row_at (ok n (List.mem_of_getElem? hn))
      refine ⟨rfl, yesT ?_⟩
      refine ⟨_, rfl, _, rfl, l, _, _, _, rfl, rfl, SqL.of (s3 _ _ h2), hx, ?_⟩
      have e : ns.getD i 0 = n := by rw [List.getD_eq_getElem?_getD, hn]; rfl
      have hN' := hN H4 (Same.refl _)
      rw [e, ex] at hN'
      exact hN'
    · intro H3 s3 h3
      have ef : fmr (fun i => some (V.str (ws.getD (ns.getD i 0).toNat ⟨#[]⟩))) (ns.map V.int).length = (ns.map fun n => ws.getD n.toNat ⟨#[]⟩).map V.str := by
        rw [fmr_map, List.length_map]
        apply List.ext_getElem
        · simp
        · intro i h1 h2'
          simp at h1 h2'
          simp [h1]
      rw [ef] at h3
      refine ⟨_, D, _, rfl, rfl, .inl (SqL.of h3), ?_, ?_⟩
      · have h8 := run_len (fun x hx => (isW_len (g.w x hx)).2) ns
        show _ + _ * 0 ≤ 16777216
        omega
      · rw [join_cat (by rfl)]
        exact q H3 ((s1.trans s2).trans s3)
theorem scNth : FnScope ["stock", "text", "index", "words", "ways", "reading", "place", "left", "number"] ["stock", "text", "index"] (defScope sNth) := ⟨rfl, rfl, rfl, by decide +kernel, rfl, by decide +kernel, by decide +kernel⟩
def natV (n : Nat) : V := .int (n : Int)
def spNth (C : Addr) : Sp := fun vs H Q _ => ∃ (p : Addr) (ws : List Str) (z : Str) (i : Nat) (row : List Nat), vs = [.ref p, .str z, .int i] ∧ StkAt C H p ws ∧ Good ws ∧ isL z = true ∧ z.length ≤ 100000 ∧ (RD ws z.cps.toList)[i]? = some row ∧
  ∀ l H', H l = none → Same H H' → H' l = some (.lst (row.map natV)) → Q (.ref l) H'
theorem ok_nth {f C fi fe fw fc fa fx : Addr} {fd fdw fdc fda fdx : FuncData} (F : Fun K "nth_reading" "nth_reading" sNth f fd) (B : Bu mg) (T : StkC K mg C fi fe fw) (Gw : FnOk P w K mg base CX0 1 fw fdw ["self"] (spSWords C)) (bw : Binds K fdw ["self"] [])
    (CT : Cal P w K mg base 2 "check_text" ["text"] spCheckText fc fdc) (AW : Cal P w K mg base 2 "all_ways" ["words", "text"] (spAllWays K) fa fda) (WA : Cal P w K mg base 2 "word_at_index" ["words", "text", "place", "ways", "index"] (spWordAt K) fx fdx) :
    FnOk P w K mg base CX0 4 f fd ["stock", "text", "index"] (spNth C) := by
  refine F.ok scNth (fun vs H Q E h => ?_) (fun cdv A outer s H vs Q E hr h => ?_)
  · obtain ⟨p, ws, z, i, row, rfl, _⟩ := h
    rfl
  · obtain ⟨p, ws, z, i, row, rfl, st, g, hL, hz, hrow, q⟩ := h
    obtain ⟨pp, hpp⟩ := T.prop
    have hr2 : Room 2 _ := hr.mono (by decide)
    have hr1 : Room 2 _ := hr.mono (by decide)
    refine ⟨_, (pss_cons (ps_expr (pe_call CT.G hr2 (by rfl) CT.g CT.k CT.b .nil pass0 (pa_cons (pv 1) pa_nil)))
      (pss_cons (ps_set (i := 3) scNth.nd rfl (Or.inl rfl) (pe_prop (pv 0) T.cl hpp Gw hr1 bw .nil pass0 rfl))
      (pss_cons (ps_set (i := 4) scNth.nd rfl (Or.inl rfl) (pe_call AW.G hr2 (by rfl) AW.g AW.k AW.b .nil pass0 (pa_cons (pv 3) (pa_cons (pv 1) pa_nil))))
      (pss_cons (ps_if (pt_not (pt_chain op_le op_lt pe_int (pv 2) (pe_ix ix_list (pv 4) pe_int (fun _ _ => rfl)))) (pss_one ps_never) pss_nil)
      (pss_cons (ps_set (i := 5) scNth.nd rfl (Or.inl rfl) (pe_lst pa_nil))
      (pss_cons (ps_set (i := 6) scNth.nd rfl (Or.inl rfl) pe_int)
      (pss_cons (ps_set (i := 7) scNth.nd rfl (Or.inl rfl) (pv 2))
      (pss_cons (ps_while PassesOwn.never (pt_cmpR op_lt (pv 6) (pe_callB call_len_str (by rfl) B.len (by decide +kernel) (pa_cons (pv 1) pa_nil)) (nomark _)) (pss_cons (ps_asg (pe_call WA.G hr2 (by rfl) WA.g WA.k WA.b .nil pass0 (pa_cons (pv 3) (pa_cons (pv 1) (pa_cons (pv 6) (pa_cons (pv 4) (pa_cons (pv 7) pa_nil)))))) (pg_tup rfl (pgs_cons (pg_name (i := 8) scNth.nd rfl (Or.inl rfl)) (pgs_cons (pg_name (i := 7) scNth.nd rfl (Or.inl rfl)) pgs_nil))))
      (pss_cons (ps_expr (pe_bm PySem.F.plainAttrs_list PySem.F.slot_list_append PySem.F.type_list_append mt_append (pv 5) (pa_cons (pv 8) pa_nil)))
      (pss_one (ps_aug (i := 6) scNth.nd rfl (Or.inl rfl) (pe_callB call_len_str (by rfl) B.len (by decide +kernel) (pa_cons (pe_ix ix_list (pv 3) (pv 8) (fun _ _ => rfl)) pa_nil)) ip_add)))))
      (pss_one (ps_ret (pv 5))))))))))), ?_⟩
    have gl := good_len g
    have gw := fun x hx => (gl x hx).1
    have hcnt : i < cnt ws z := by
      have := (List.getElem?_eq_some_iff.mp hrow).1
      rwa [RD_len gw] at this
    have hzl := len_list z
    refine ⟨_, rfl, z, rfl, hz, hL, fun H1 s1 => ?_⟩
    obtain ⟨dx, t, e1, e2⟩ := id (st.same s1)
    refine ⟨_, rfl, p, dx, _, rfl, e1, p, ws, rfl, st.same s1, fun l H2 nl s2 h2 => ?_⟩
    refine ⟨_, rfl, _, rfl, l, ws, z, rfl, SqL.of h2, gl, g.hi, hz, fun wy H3 nw s3 h3 => ?_⟩
    have s13 := (s1.trans s2).trans s3
    refine ⟨_, rfl, _, _, rfl, rfl, _, rfl, ?_⟩
    rw [decide_eq_true (show (0 : Int) ≤ (i : Int) by omega)]
    refine iteT ?_
    refine ⟨_, rfl, wy, _, _, _, rfl, rfl, SqL.of h3, atI_nat (j := 0) wl_head, _, _, rfl, rfl, _, rfl, ?_⟩
    rw [decide_eq_true (show (i : Int) < ((cnt ws z : Nat) : Int) by omega)]
    refine iteF ?_
    refine ⟨Nat.zero_le _, fun rl nrl => ?_⟩
    have s4 := same_upd (o := .lst []) nrl
    have hrl : (upd H3 rl (.lst [])) rl = some (.lst (([] : List Nat).map natV)) := upd_same
    have nrl0 : H rl = none := s13.free nrl
    have hrlw : rl ≠ wy := (ne_of_none h3 nrl).symm
    have hrll : rl ≠ l := (ne_of_none (s3 _ _ h2) nrl).symm
    have hw4 := s4 _ _ h3
    have hl4 := s4 _ _ (s3 _ _ h2)
    have s04 := s13.trans s4
    generalize upd H3 rl (.lst []) = H4 at s4 hrl hw4 hl4 s04 ⊢
    refine ⟨_, rfl, ?_⟩
    refine ⟨fun μ σ H' => ∃ (m k : Nat) (pre rest : List Nat) (v8 : Option V), σ = [some (.ref p), some (.str z), some (.int i), some (.ref l), some (.ref wy), some (.ref rl), some (.int m), some (.int k), v8] ∧ Same H H' ∧ H' l = some (.lst (ws.map V.str)) ∧ H' wy = some (.lst ((wl ws z.cps.toList).map fun y => V.int (y : Nat))) ∧ H' rl = some (.lst (pre.map natV)) ∧ m ≤ z.length ∧ pre.length ≤ m ∧ (RD ws (z.cps.toList.drop m))[k]? = some rest ∧ row = pre ++ rest ∧ μ = z.length - m,
      ⟨_, 0, i, [], row, none, rfl, s04, hl4, hw4, hrl, Nat.zero_le _, Nat.le_refl _, hrow, rfl, rfl⟩, ?_⟩
    rintro μ σ H5 ⟨m, k, pre, rest, v8, rfl, s5, hl5, hw5, hr5, hm, hpm, hk, hre, rfl⟩
    refine ⟨_, rfl, _, rfl, z, rfl, Nat.le_trans hz (by decide), _, _, rfl, rfl, ?_⟩
    rcases Nat.lt_or_ge m z.length with c | c
    · have hne : z.cps.toList.drop m ≠ [] := by
        intro e
        have := congrArg List.length e
        rw [List.length_drop] at this
        simp only [List.length_nil] at this
        omega
      obtain ⟨b, k', v, rest', h1, h2', h3', h4', rfl, h5⟩ := RD_nth gw hne hk
      obtain ⟨v1, v8'⟩ := gl v (List.mem_of_getElem? h1)
      have hf := fit_len h2'
      rw [List.length_drop] at hf
      refine ⟨true, by show V.bl (decide ((m : Int) < (z.length : Int))) = V.bl true; rw [decide_eq_true (by omega)], ?_⟩
      refine iteT ⟨_, fun _ _ h => h, ?_⟩
      refine ⟨_, rfl, _, rfl, _, rfl, _, rfl, _, rfl, l, wy, ws, z, m, k, rfl, SqL.of hl5, SqL.of hw5, gl, c, hz, b, k', v, h1, h3', h4', fun tp H6 ntp s6 h6 => ?_⟩
      refine ⟨tp, _, rfl, SqT.of h6, rfl, _, _, rfl, ?_⟩
      refine ⟨_, _, rfl, rfl, ?_⟩
      have hr6 := s6 _ _ hr5
      have hl6 := s6 _ _ hl5
      have hw6 := s6 _ _ hw5
      refine ⟨_, rfl, .inl ⟨rfl, _, SqL.of hr6⟩, _, rfl, rl, _, _, rfl, rfl, hr6, ?_, ?_⟩
      · rw [List.length_map]
        exact Nat.lt_of_le_of_lt (show pre.length ≤ 100000 by omega) (by decide)
      refine ⟨_, rfl, _, rfl, _, rfl, l, _, _, _, rfl, rfl, SqL.of (by rw [upd_ne hrll.symm]; exact hl6), atI_nat (j := b) (by rw [List.getElem?_map, h1]; rfl), v, rfl, Nat.le_trans v8' (by decide), _, _, rfl, rfl, ?_⟩
      refine ⟨z.length - (m + v.length), by omega, m + v.length, k', pre ++ [b], rest', _, rfl, same_set (s5.trans s6) nrl0, by rw [upd_ne hrll.symm]; exact hl6, by rw [upd_ne hrlw.symm]; exact hw6, by rw [upd_same, List.map_append]; rfl, by omega, ?_, ?_, ?_, rfl⟩
      · rw [List.length_append, List.length_singleton]
        omega
      · rw [← List.drop_drop]
        exact h5
      · rw [hre, List.append_assoc]
        rfl
    · have em : m = z.length := by omega
      have ed : z.cps.toList.drop m = [] := List.drop_of_length_le (by omega)
      rw [ed, RD_nil] at hk
      have er : rest = [] := by
        cases k with
        | zero => exact (Option.some.inj hk).symm
        | succ k => simp at hk
      subst er
      rw [List.append_nil] at hre
      subst hre
      refine ⟨false, by show V.bl (decide ((m : Int) < (z.length : Int))) = V.bl false; rw [decide_eq_false (by omega)], ?_⟩
      exact iteF ⟨_, rfl, q rl H5 nrl0 s5 hr5⟩
theorem scIndex : FnScope ["stock", "reading", "text", "words", "ways", "index", "place", "number", "word"] ["stock", "reading"] (defScope sIndex) := ⟨rfl, rfl, rfl, by decide +kernel, rfl, by decide +kernel, by decide +kernel⟩
theorem nat_at {ns : List Nat} {i : Nat} {y : V} (h : ((ns.map fun (n : Nat) => (n : Int)).map V.int)[i]? = some y) : ∃ x, ns[i]? = some x ∧ y = .int (x : Int) := by
  obtain ⟨x, h1, h2⟩ := int_at h
  rw [List.getElem?_map] at h1
  cases e : ns[i]? with
  | none =>
    rw [e] at h1
    cases h1
  | some x' =>
    rw [e] at h1
    exact ⟨x', rfl, by rw [h2, ← Option.some.inj h1]⟩
theorem natV_map (row : List Nat) : row.map natV = (row.map fun (n : Nat) => (n : Int)).map V.int := by
  rw [List.map_map]
  rfl
theorem nat_ok {m : Nat} {row : List Nat} (h : ∀ i ∈ row, i < m) : ∀ n ∈ row.map fun (n : Nat) => (n : Int), rowOk m n = true := by
  intro n hn
  obtain ⟨i, hi, rfl⟩ := List.mem_map.mp hn
  have := h i hi
  unfold rowOk
  rw [decide_eq_true (by omega), decide_eq_true (by omega)]
  rfl
/-- the codes of the words of a row -/
def codes (ws : List Str) (row : List Nat) : List Nat := (row.map fun i => (ws.getD i ⟨#[]⟩).cps.toList).flatten
theorem run_codes (ws : List Str) (row : List Nat) : (run ws (row.map fun (n : Nat) => (n : Int))).cps.toList = codes ws row := by
  unfold run codes
  rw [catS_list, List.map_map, List.map_map]
  rfl
theorem codes_drop {ws : List Str} {row : List Nat} {i : Nat} : (codes ws row).drop (codes ws (row.take i)).length = codes ws (row.drop i) := by
  have e : codes ws row = codes ws (row.take i) ++ codes ws (row.drop i) := by
    unfold codes
    rw [← List.flatten_append, ← List.map_append, List.take_append_drop]
  rw [e, List.drop_left]
theorem codes_snoc {ws : List Str} {row : List Nat} {i n : Nat} {x : Str} (hn : row[i]? = some n) (hx : ws[n]? = some x) : codes ws (row.take (i + 1)) = codes ws (row.take i) ++ x.cps.toList := by
  unfold codes
  rw [take_snoc hn, List.map_append, List.flatten_append]
  have eg : ws.getD n ⟨#[]⟩ = x := by rw [List.getD_eq_getElem?_getD, hx]; rfl
  rw [List.map_singleton, List.flatten_singleton, eg]
def spIndex (K : PySem.W.Frag) (C : Addr) : Sp := fun vs H Q _ => ∃ (p r : Addr) (ws : List Str) (row : List Nat), vs = [.ref p, .ref r] ∧ StkAt C H p ws ∧ Good ws ∧ SqL K H r (row.map natV) ∧ row.length ≤ 10000 ∧ (∀ i ∈ row, i < ws.length) ∧ ∀ H', Same H H' → Q (.int ((idx ws (codes ws row) row : Nat) : Int)) H'
theorem ok_index {f C fi fe fw fc fa fx : Addr} {fd fdw fdc fda fdx : FuncData} (F : Fun K "reading_index" "reading_index" sIndex f fd) (B : Bu mg) (Bs : mg "sum" = none) (T : StkC K mg C fi fe fw) (Gw : FnOk P w K mg base CX0 1 fw fdw ["self"] (spSWords C)) (bw : Binds K fdw ["self"] [])
    (JO : Cal P w K mg base 4 "joined" ["stock", "reading"] (spJoinedQ K C) fc fdc) (AW : Cal P w K mg base 2 "all_ways" ["words", "text"] (spAllWays K) fa fda) (WW : Cal P w K mg base 1 "ways_with" ["word", "text", "place", "ways"] (spWaysWith K) fx fdx) :
    FnOk P w K mg base CX0 5 f fd ["stock", "reading"] (spIndex K C) := by
  refine F.ok scIndex (fun vs H Q E h => ?_) (fun cdv A outer s H vs Q E hr h => ?_)
  · obtain ⟨p, r, ws, row, rfl, _⟩ := h
    rfl
  · obtain ⟨p, r, ws, row, rfl, st, g, hS, hl, ok, q⟩ := h
    obtain ⟨pp, hpp⟩ := T.prop
    have hr3 : Room 4 _ := hr.mono (by decide)
    have hr2 : Room 2 _ := hr.mono (by decide)
    have hr0 : Room 1 _ := hr.mono (by decide)
    have hr1 : Room 2 _ := hr.mono (by decide)
    refine ⟨_, (pss_cons (ps_set (i := 2) scIndex.nd rfl (Or.inr rfl) (pe_call JO.G hr3 (by rfl) JO.g JO.k JO.b .nil pass0 (pa_cons (pv 0) (pa_cons (pv 1) pa_nil))))
      (pss_cons (ps_set (i := 3) scIndex.nd rfl (Or.inl rfl) (pe_prop (pv 0) T.cl hpp Gw hr1 bw .nil pass0 rfl))
      (pss_cons (ps_set (i := 4) scIndex.nd rfl (Or.inr rfl) (pe_call AW.G hr2 (by rfl) AW.g AW.k AW.b .nil pass0 (pa_cons (pv 3) (pa_cons (pv 2) pa_nil))))
      (pss_cons (ps_set (i := 5) scIndex.nd rfl (Or.inl rfl) pe_int)
      (pss_cons (ps_set (i := 6) scIndex.nd rfl (Or.inr rfl) pe_int)
      (pss_cons (ps_for PassesOwn.never rfl (pi_list (pv 1)) (pg_name (i := 7) scIndex.nd rfl (Or.inl rfl)) (pss_cons (ps_aug (i := 5) scIndex.nd rfl (Or.inl rfl) (pe_callB (cr_sum rfl) (by rfl) Bs (by decide +kernel) (pa_cons (pe_lc (own := [("word", 8)]) (g := gName 8) (tt := tYes) rfl scIndex.nd (pi_list (pe_slice sl_list (pv 3) po_none (po_some (pv 7)))) (blkOk_by (N := ["stock", "reading", "text", "words", "ways", "index", "place", "number", "word"]) (sc := defScope sIndex) (by decide +kernel)) (fun _ _ _ _ _ => pg_name (i := 8) scIndex.nd rfl (Or.inl rfl)) (fun _ _ _ _ _ => pts_nil) (fun _ _ _ _ _ => (pe_call WW.G hr0 (by rfl) WW.g WW.k WW.b .nil pass0 (pa_cons (pv 8) (pa_cons (pv 2) (pa_cons (pv 6) (pa_cons (pv 4) pa_nil))))))) pa_nil)) ip_add)
      (pss_one (ps_aug (i := 6) scIndex.nd rfl (Or.inr rfl) (pe_callB call_len_str (by rfl) B.len (by decide +kernel) (pa_cons (pe_ix ix_list (pv 3) (pv 7) (fun _ _ => rfl)) pa_nil)) ip_add))))
      (pss_one (ps_ret (pv 5))))))))), ?_⟩
    have gl := good_len g
    rw [natV_map] at hS
    have hz8 := run_len (fun x hx => (gl x hx).2) (row.map fun (n : Nat) => (n : Int))
    have hz : (run ws (row.map fun (n : Nat) => (n : Int))).length ≤ 80000 := by
      unfold run
      rw [catS_len]
      rw [List.length_map (as := row)] at hz8
      omega
    have hzc := run_codes ws row
    have hzl := len_list (run ws (row.map fun (n : Nat) => (n : Int)))
    refine ⟨_, rfl, _, rfl, p, r, ws, _, rfl, st, g, hS, by rw [List.length_map]; omega, nat_ok ok, fun H1 s1 => ?_⟩
    generalize run ws (row.map fun (n : Nat) => (n : Int)) = z at hz hzc hzl ⊢
    obtain ⟨dx, t, e1, e2⟩ := id (st.same s1)
    refine ⟨_, rfl, p, dx, _, rfl, e1, p, ws, rfl, st.same s1, fun l H2 nl s2 h2 => ?_⟩
    refine ⟨_, rfl, _, rfl, l, ws, z, rfl, SqL.of h2, gl, g.hi, by omega, fun wy H3 nw s3 h3 => ?_⟩
    have s13 := (s1.trans s2).trans s3
    have hl3 := s3 _ _ h2
    refine ⟨_, rfl, r, rfl, ⟨_, s13.seq hS⟩, for_list (K := K) (a := r) (xs := (row.map fun (n : Nat) => (n : Int)).map V.int) (fun i σ H' => ∃ (v : Nat) (v7 v8 : Option V), σ = [some (.ref p), some (.ref r), some (.str z), some (.ref l), some (.ref wy), some (.int v), some (.int ((codes ws (row.take i)).length : Nat)), v7, v8] ∧ Same H H' ∧ H' l = some (.lst (ws.map V.str)) ∧ H' wy = some (.lst ((wl ws z.cps.toList).map fun y => V.int (y : Nat))) ∧ v + idx ws (codes ws (row.drop i)) (row.drop i) = idx ws (codes ws row) row)
      ⟨0, none, none, rfl, s13, hl3, h3, by simp⟩ (fun i σ H' _ ⟨_, _, _, _, s', _⟩ => s'.seq hS) ?_ ?_⟩
    · rintro i y σ H' hy ⟨v, v7, v8, rfl, s', hl', hw', hv⟩
      obtain ⟨n, hn, rfl⟩ := nat_at hy
      have hnw := ok n (List.mem_of_getElem? hn)
      obtain ⟨x, hx⟩ : ∃ x, ws[n]? = some x := ⟨ws[n], List.getElem?_eq_getElem hnw⟩
      obtain ⟨x1, x8⟩ := gl x (List.mem_of_getElem? hx)
      have hlt : (codes ws (row.take i)).length + x.length ≤ z.length := by
        have e2 : codes ws row = codes ws (row.take (i + 1)) ++ codes ws (row.drop (i + 1)) := by
          unfold codes
          rw [← List.flatten_append, ← List.map_append, List.take_append_drop]
        have e3 := codes_snoc hn hx
        rw [hzl, hzc, e2, e3, List.length_append, List.length_append, len_list x]
        exact Nat.le_add_right _ _
      have edrop : z.cps.toList.drop (codes ws (row.take i)).length = codes ws (row.drop i) := by
        rw [hzc]
        exact codes_drop
      have etake : (codes ws (row.take (i + 1))).length = (codes ws (row.take i)).length + x.length := by
        rw [codes_snoc hn hx, List.length_append, len_list x]
      have erow : row.drop i = n :: row.drop (i + 1) := by
        obtain ⟨h1, h2⟩ := List.getElem?_eq_some_iff.mp hn
        rw [List.drop_eq_getElem_cons h1, h2]
      generalize hm : (codes ws (row.take i)).length = m at hlt edrop etake ⊢
      refine ⟨_, rfl, _, rfl, _, rfl, _, rfl, l, _, rfl, SqL.of hl', fun sl nsl => ?_⟩
      have ecut : cutV (ws.map V.str) none (some (n : Int)) = (ws.take n).map V.str := by
        unfold cutV
        rw [HT.sIx_nat, HT.sIx_none, List.drop_zero, Nat.sub_zero, List.map_take, ← List.take_eq_take_min]
      have ss := same_upd (o := .lst ((ws.take n).map V.str)) nsl
      rw [ecut]
      have hsl : (upd H' sl (.lst ((ws.take n).map V.str))) sl = some (.lst ((ws.take n).map V.str)) := upd_same
      have hw6 := ss _ _ hw'
      have hl6 := ss _ _ hl'
      have s06 := s'.trans ss
      generalize upd H' sl (.lst ((ws.take n).map V.str)) = H6 at ss hsl hw6 hl6 s06 ⊢
      refine ⟨sl, rfl, ⟨_, SqL.of hsl⟩, fun D hD => ?_⟩
      refine lc_fm walk_list (fun j => some (.int ((eOf ws (z.cps.toList.drop m) (ws.getD j ⟨#[]⟩) : Nat) : Int))) ?_ hD (fun H' s' => SqL.of (s' _ _ hsl)) ?_ ?_
      · rw [List.length_map, List.length_take]
        exact Nat.lt_of_le_of_lt (show min n ws.length ≤ 8 by have := g.hi; omega) (by decide)
      · rintro j y H7 H8 N hj s7 ⟨rfl, hy2⟩ hN
        obtain ⟨u, hu, rfl⟩ := map_at hy2
        have hun : ws[j]? = some u := by
          rw [List.getElem?_take] at hu
          split at hu
          · exact hu
          · cases hu
        have eu : ws.getD j ⟨#[]⟩ = u := by rw [List.getD_eq_getElem?_getD, hun]; rfl
        obtain ⟨u1, u8⟩ := gl u (List.mem_of_getElem? hun)
        have hN' := hN H8 (Same.refl _)
        rw [eu] at hN'
        have hmz : m < z.length := by omega
        refine ⟨rfl, yesT ?_⟩
        exact ⟨_, rfl, _, rfl, _, rfl, _, rfl, u, z, m, wy, _, rfl, SqL.of (s7 _ _ hw6), u1, by omega, by omega, by omega, _, (ways_eOf hmz).1, (ways_eOf hmz).2, hN'⟩
      · intro H7 s7 h7
        have ef : fmr (fun j => some (V.int ((eOf ws (z.cps.toList.drop m) (ws.getD j ⟨#[]⟩) : Nat) : Int))) ((ws.take n).map V.str).length =
            (((ws.take n).map (eOf ws (z.cps.toList.drop m))).map fun (k : Nat) => (k : Int)).map V.int := by
          rw [fmr_map, List.length_map]
          apply List.ext_getElem
          · simp
          · intro j h1 h2
            simp at h1 h2
            simp [h1, show j < ws.length by omega]
        rw [ef] at h7
        refine ⟨D, _, rfl, SqL.of h7, ?_⟩
        rw [sum_cast]
        refine ⟨_, _, rfl, rfl, ?_⟩
        refine ⟨_, rfl, _, rfl, _, rfl, l, _, _, _, rfl, rfl, SqL.of (s7 _ _ hl6), atI_nat (j := n) (by rw [List.getElem?_map, hx]; rfl), x, rfl, Nat.le_trans x8 (by decide), _, _, rfl, rfl, ?_⟩
        refine ⟨v + ((ws.take n).map (eOf ws (z.cps.toList.drop m))).sum, some (.int n), v8, ?_, s06.trans s7, s7 _ _ hl6, s7 _ _ hw6, ?_⟩
        · rw [etake]
          push_cast
          rfl
        · rw [erow] at hv
          have e1 : idx ws (codes ws (n :: row.drop (i + 1))) (n :: row.drop (i + 1)) = ((ws.take n).map (eOf ws (codes ws (n :: row.drop (i + 1))))).sum + idx ws ((codes ws (n :: row.drop (i + 1))).drop (ws.getD n ⟨#[]⟩).length) (row.drop (i + 1)) := rfl
          have eg : ws.getD n ⟨#[]⟩ = x := by rw [List.getD_eq_getElem?_getD, hx]; rfl
          have e2 : (codes ws (n :: row.drop (i + 1))).drop x.length = codes ws (row.drop (i + 1)) := by
            have e3 : codes ws (n :: row.drop (i + 1)) = x.cps.toList ++ codes ws (row.drop (i + 1)) := by
              unfold codes
              rw [List.map_cons, List.flatten_cons, eg]
            rw [e3, len_list x, List.drop_left]
          rw [e1, eg, e2] at hv
          rw [edrop, erow]
          omega
    · rintro σ H' ⟨v, v7, v8, rfl, s', hl', hw', hv⟩
      refine ⟨_, rfl, ?_⟩
      rw [List.length_map, List.length_map, List.drop_length] at hv
      have e : v = idx ws (codes ws row) row := by
        rw [← hv]
        rfl
      rw [e]
      exact q H' s'
end

/-! ### how many readings at most -/
theorem sum_pow_lt : ∀ (n : Nat) (L : List Nat), L.Nodup → (∀ l ∈ L, 1 ≤ l ∧ l ≤ n) → (L.map fun l => 2 ^ (n - l)).sum < 2 ^ n
  | 0, [], _, _ => by decide
  | 0, l :: L, _, h => by
    have := h l List.mem_cons_self
    omega
  | n + 1, L, nd, h => by
    have key : ∀ M : List Nat, M.Nodup → (∀ l ∈ M, 2 ≤ l ∧ l ≤ n + 1) → (M.map fun l => 2 ^ (n + 1 - l)).sum < 2 ^ n := by
      intro M mn mh
      have ih := sum_pow_lt n (M.map fun l => l - 1) ?_ ?_
      · rw [List.map_map] at ih
        have e : (M.map fun l => 2 ^ (n + 1 - l)) = M.map ((fun l => 2 ^ (n - l)) ∘ fun l => l - 1) := by
          refine List.map_congr_left fun l hl => ?_
          have := mh l hl
          show 2 ^ (n + 1 - l) = 2 ^ (n - (l - 1))
          congr 1
          omega
        rw [e]
        exact ih
      · refine List.pairwise_map.mpr (List.Pairwise.imp_of_mem (fun {a b} ha hb hab => ?_) mn)
        have h1 := mh a ha
        have h2 := mh b hb
        omega
      · intro l hl
        obtain ⟨m, hm, rfl⟩ := List.mem_map.mp hl
        have := mh m hm
        omega
    by_cases c : 1 ∈ L
    · have p := List.perm_cons_erase c
      have e := List.Perm.sum_nat (List.Perm.map (fun l => 2 ^ (n + 1 - l)) p)
      rw [e, List.map_cons, List.sum_cons]
      have k := key (L.erase 1) (nd.erase 1) (fun l hl => by
        have h1 := h l (List.mem_of_mem_erase hl)
        have h2 : l ≠ 1 := (List.Nodup.mem_erase_iff nd).mp hl |>.1
        omega)
      have : (2 : Nat) ^ (n + 1) = 2 ^ n + 2 ^ n := by omega
      have e2 : n + 1 - 1 = n := by omega
      rw [e2]
      omega
    · have k := key L nd (fun l hl => by
        have h1 := h l hl
        have h2 : l ≠ 1 := fun z => c (z ▸ hl)
        omega)
      have : (2 : Nat) ^ (n + 1) = 2 ^ n + 2 ^ n := by omega
      omega
theorem str_of_list {x y : Str} (h : x.cps.toList = y.cps.toList) : x = y := by
  cases x
  cases y
  congr 1
  exact Array.toList_inj.mp h
theorem sum_filter (q : Str → Bool) (f : Str → Nat) : ∀ l : List Str, (∀ x ∈ l, q x = false → f x = 0) → (l.map f).sum = ((l.filter q).map f).sum
  | [], _ => rfl
  | x :: l, h => by
    have ih := sum_filter q f l fun y hy => h y (List.mem_cons_of_mem _ hy)
    rw [List.map_cons, List.sum_cons, ih]
    cases c : q x with
    | true => rw [List.filter_cons_of_pos c, List.map_cons, List.sum_cons]
    | false =>
      rw [List.filter_cons_of_neg (by simp [c]), h x List.mem_cons_self c]
      omega
theorem sum_le_map {f g : Str → Nat} : ∀ l : List Str, (∀ x ∈ l, f x ≤ g x) → (l.map f).sum ≤ (l.map g).sum
  | [], _ => Nat.le_refl _
  | x :: l, h => by
    rw [List.map_cons, List.map_cons, List.sum_cons, List.sum_cons]
    have := sum_le_map l fun y hy => h y (List.mem_cons_of_mem _ hy)
    have := h x List.mem_cons_self
    omega
theorem wl_small {ws : List Str} (hw : ∀ x ∈ ws, 1 ≤ x.length) (nd : ws.Nodup) : ∀ (n : Nat) (t : List Nat), t.length ≤ n → (wl ws t).headD 0 ≤ 2 ^ t.length
  | _, [], _ => Nat.le_refl 1
  | 0, c :: t, h => by simp at h
  | n + 1, c :: t, h => by
    rw [wl_cons, List.headD_cons]
    unfold ent
    rw [ent_eq ws hw ws hw, sum_filter (fun w => fit w (c :: t)) (eOf ws (c :: t)) ws (fun x _ hq => by unfold eOf; rw [if_neg (by rw [hq]; exact Bool.false_ne_true)])]
    have h1 : ((ws.filter fun w => fit w (c :: t)).map (eOf ws (c :: t))).sum ≤ ((ws.filter fun w => fit w (c :: t)).map fun w => 2 ^ ((c :: t).length - w.length)).sum := by
      refine sum_le_map _ fun x hx => ?_
      obtain ⟨hx1, hx2⟩ := List.mem_filter.mp hx
      have x1 := hw x hx1
      unfold eOf
      rw [if_pos hx2]
      have ih := wl_small hw nd n ((c :: t).drop x.length) (by rw [List.length_drop]; omega)
      rw [List.length_drop] at ih
      exact ih
    have h2 := sum_pow_lt (c :: t).length ((ws.filter fun w => fit w (c :: t)).map (·.length)) ?_ ?_
    · rw [List.map_map] at h2
      exact Nat.le_of_lt (Nat.lt_of_le_of_lt h1 h2)
    · refine List.pairwise_map.mpr (List.Pairwise.imp_of_mem (fun {a b} ha hb hab => ?_) (nd.filter _))
      obtain ⟨_, ha2⟩ := List.mem_filter.mp ha
      obtain ⟨_, hb2⟩ := List.mem_filter.mp hb
      unfold fit at ha2 hb2
      intro e
      apply hab
      apply str_of_list
      rw [← eq_of_beq ha2, ← eq_of_beq hb2, e]
    · intro l hl
      obtain ⟨x, hx, rfl⟩ := List.mem_map.mp hl
      obtain ⟨hx1, hx2⟩ := List.mem_filter.mp hx
      exact ⟨hw x hx1, fit_len hx2⟩
theorem RD_small {ws : List Str} (hw : ∀ x ∈ ws, 1 ≤ x.length) (nd : ws.Nodup) (t : List Nat) : (RD ws t).length ≤ 2 ^ t.length := by
  rw [RD_len hw]
  exact wl_small hw nd _ t (Nat.le_refl _)

section
variable {P : Program} {w : World} {K : PySem.W.Frag} {mg : Str → Option Value} {base : Heap}
/-- the readings of the first words -/
def blk (ws : List Str) (t : List Nat) (i : Nat) : List (List Nat) := ((ws.zipIdx.take i).map fun p => if fit p.1 t = true then (RD ws (t.drop p.1.length)).map (p.2 :: ·) else []).flatten
theorem blk_succ {ws : List Str} {t : List Nat} {i : Nat} {v : Str} (h : ws[i]? = some v) : blk ws t (i + 1) = blk ws t i ++ (if fit v t = true then (RD ws (t.drop v.length)).map (i :: ·) else []) := by
  unfold blk
  have e : ws.zipIdx[i]? = some (v, i) := by
    have : ws.zipIdx[i]? = (ws[i]?).map fun v => (v, i) := by simp
    rw [this, h]
    rfl
  rw [take_snoc e, List.map_append, List.flatten_append, List.map_singleton, List.flatten_singleton]
theorem blk_all {ws : List Str} (hw : ∀ x ∈ ws, 1 ≤ x.length) {t : List Nat} (ht : t ≠ []) : blk ws t ws.length = RD ws t := by
  cases t with
  | nil => exact absurd rfl ht
  | cons c t =>
    unfold blk
    rw [List.take_of_length_le (by simp)]
    show _ = (ws.zipIdx.map fun p => if fit p.1 (c :: t) = true then (rdF ws t.length ((c :: t).drop p.1.length)).map (p.2 :: ·) else []).flatten
    congr 1
    refine List.map_congr_left fun p hp => ?_
    have h1 := hw p.1 (List.fst_mem_of_mem_zipIdx hp)
    unfold RD
    rw [rdF_fuel ws hw _ t.length _ (Nat.le_refl _) (by rw [List.length_drop, List.length_cons]; omega)]
theorem blk_le {ws : List Str} (hw : ∀ x ∈ ws, 1 ≤ x.length) {t : List Nat} (ht : t ≠ []) (i : Nat) : (blk ws t i).length ≤ (RD ws t).length := by
  rw [← blk_all hw ht]
  unfold blk
  have e : (ws.zipIdx.take ws.length) = (ws.zipIdx.take i) ++ (ws.zipIdx.drop i) := by
    rw [List.take_append_drop, List.take_of_length_le (by simp)]
  rw [e, List.map_append, List.flatten_append, List.length_append]
  exact Nat.le_add_right _ _
/-- a list of lists of numbers -/
def RowsAt (H : Hp) (l : Addr) (rows : List (List Nat)) : Prop := ∃ ls : List Addr, H l = some (.lst (ls.map V.ref)) ∧ ls.length = rows.length ∧ ∀ (j : Nat) (a : Addr) (row : List Nat), ls[j]? = some a → rows[j]? = some row → H a = some (.lst (row.map natV))
theorem rows_nil {ws : List Str} {H : Hp} {Q : VK} (q : ∀ l H', H l = none → Same H H' → RowsAt H' l (RD ws (Str.ofString "").cps.toList) → Q (.ref l) H') : ([] : List V).length ≤ sizeLine ∧ ∀ p, H p = none → ([V.ref p] : List V).length ≤ sizeLine ∧ ∀ p', (upd H p (.lst [])) p' = none → Q (.ref p') (upd (upd H p (.lst [])) p' (.lst [.ref p])) := by
  refine ⟨Nat.zero_le _, fun p np => ⟨(by show 1 ≤ sizeLine; decide), fun l nl => ?_⟩⟩
  have s1 := same_upd (o := .lst []) np
  refine q l _ (s1.free nl) (s1.trans (same_upd nl)) ⟨[p], upd_same, rfl, fun j a row h1 h2 => ?_⟩
  cases j with
  | zero =>
    have e1 : p = a := Option.some.inj h1
    have e2 : [] = row := Option.some.inj h2
    subst e1 e2
    exact same_upd nl _ _ upd_same
  | succ j => simp at h1
theorem scAll : FnScope ["lot", "line", "found", "spot", "step", "row"] ["lot", "line"] (defScope sAllReadings) := ⟨rfl, rfl, rfl, by decide +kernel, rfl, by decide +kernel, by decide +kernel⟩
def spAll (K : PySem.W.Frag) (d : Nat) : Sp := fun vs H Q _ => ∃ (a : Addr) (ws : List Str) (z : Str), vs = [.ref a, .str z] ∧ SqL K H a (ws.map V.str) ∧ Good ws ∧ z.length ≤ d ∧ z.length ≤ 20 ∧ ∀ l H', H l = none → Same H H' → RowsAt H' l (RD ws z.cps.toList) → Q (.ref l) H'
theorem ok_all {f : Addr} {fd : FuncData} (F : Fun K "_law_all_readings" "_law_all_readings" sAllReadings f fd) (B : Bu mg) (Be : mg "enumerate" = none) (b : Binds K fd ["lot", "line"] []) (kk : PySem.W.keepIn K (.ref f) = true) (gg : mg "_law_all_readings" = some (.ref f)) :
    ∀ d : Nat, FnOk P w K mg base CX0 (d + 1) f fd ["lot", "line"] (spAll K d)
  | 0 => by
    refine F.ok scAll (fun vs H Q E h => ?_) (fun cdv A outer s H vs Q E hr h => ?_)
    · obtain ⟨a, ws, z, rfl, _⟩ := h
      rfl
    · obtain ⟨a, ws, z, rfl, hS, g, hd, hz, q⟩ := h
      refine ⟨_, (pss_cons (ps_if (pt_cmpR op_eq (pv 1) pe_str (nomark _)) (pss_one (ps_ret (pe_lst (pa_cons (pe_lst pa_nil) pa_nil)))) pss_nil) pss_never), ?_⟩
      have ez : z = ("" : Str) := str_of_list (by rw [show (Str.ofString "").cps.toList = [] from rfl]; exact List.length_eq_zero_iff.mp (by rw [← len_list z]; omega))
      subst ez
      refine ⟨_, rfl, rfl, _, rfl, ?_⟩
      rw [decide_eq_true rfl]
      exact iteT (rows_nil q)
  | d + 1 => by
    have AL : Cal P w K mg base (d + 1) "_law_all_readings" ["lot", "line"] (spAll K d) f fd := ⟨ok_all F B Be b kk gg d, b, kk, gg⟩
    refine F.ok scAll (fun vs H Q E h => ?_) (fun cdv A outer s H vs Q E hr h => ?_)
    · obtain ⟨a, ws, z, rfl, _⟩ := h
      rfl
    · obtain ⟨a, ws, z, rfl, hS, g, hd, hz, q⟩ := h
      have hr1 : Room (d + 1) _ := hr
      refine ⟨_, (pss_cons (ps_if (pt_cmpR op_eq (pv 1) pe_str (nomark _)) (pss_one (ps_ret (pe_lst (pa_cons (pe_lst pa_nil) pa_nil)))) pss_nil)
      (pss_cons (ps_set (i := 2) scAll.nd rfl (Or.inl rfl) (pe_lst pa_nil))
      (pss_cons (ps_for PassesOwn.never rfl (pi_enum (by rfl) Be (pa_cons (pv 0) pa_nil)) (pg_tup rfl (pgs_cons (pg_name (i := 3) scAll.nd rfl (Or.inr rfl)) (pgs_cons (pg_name (i := 4) scAll.nd rfl (Or.inl rfl)) pgs_nil))) (pss_one (ps_if (pt_cmpR op_eq (pe_slice sl_str (pv 1) po_none (po_some (pe_callB call_len_str (by rfl) B.len (by decide +kernel) (pa_cons (pv 4) pa_nil)))) (pv 4) (nomark _)) (pss_one (ps_expr (pe_bm PySem.F.plainAttrs_list PySem.F.slot_list_extend PySem.F.type_list_extend mt_extend (pv 2) (pa_cons (pe_lc (own := [("row", 5)]) (g := gName 5) (tt := tYes) rfl scAll.nd (pi_list (pe_call AL.G hr1 (by rfl) AL.g AL.k AL.b .nil pass0 (pa_cons (pv 0) (pa_cons (pe_slice sl_str (pv 1) (po_some (pe_callB call_len_str (by rfl) B.len (by decide +kernel) (pa_cons (pv 4) pa_nil))) po_none) pa_nil)))) (blkOk_by (N := ["lot", "line", "found", "spot", "step", "row"]) (sc := defScope sAllReadings) (by decide +kernel)) (fun _ _ _ _ _ => pg_name (i := 5) scAll.nd rfl (Or.inl rfl)) (fun _ _ _ _ _ => pts_nil) (fun _ _ _ _ _ => (pe_op op_cat (pe_lst (pa_cons (pv 3) pa_nil)) (pv 5)))) pa_nil)))) pss_nil)))
      (pss_one (ps_ret (pv 2)))))), ?_⟩
      have gl := good_len g
      have gw := fun x hx => (gl x hx).1
      have hzl := len_list z
      have hzs : z.length ≤ sizeLine := Nat.le_trans hz (by decide)
      by_cases ez : z = ("" : Str)
      · subst ez
        refine ⟨_, rfl, rfl, _, rfl, ?_⟩
        rw [decide_eq_true rfl]
        exact iteT (rows_nil q)
      · refine ⟨_, rfl, rfl, _, rfl, ?_⟩
        rw [decide_eq_false (fun h => ez (V.str.inj h))]
        refine iteF ?_
        have hne : z.cps.toList ≠ [] := fun h => ez (str_of_list (by rw [h]; rfl))
        refine ⟨Nat.zero_le _, fun fl nfl => ?_⟩
        have s1 := same_upd (o := .lst []) nfl
        refine ⟨_, rfl, a, _, rfl, s1.seq hS, ?_⟩
        refine for_it walk_enum (fun i σ H' => ∃ (v3 v4 v5 : Option V) (ls : List Addr), σ = [some (.ref a), some (.str z), some (.ref fl), v3, v4, v5] ∧ Same H H' ∧ H' fl = some (.lst (ls.map V.ref)) ∧ ls.length = (blk ws z.cps.toList i).length ∧ ∀ (j : Nat) (b : Addr), ls[j]? = some b → b ≠ fl ∧ ∀ row, (blk ws z.cps.toList i)[j]? = some row → H' b = some (.lst (row.map natV)))
          ⟨none, none, none, [], rfl, s1, upd_same, rfl, fun j b h => by simp at h⟩ (fun i σ H' _ ⟨_, _, _, _, _, s', _⟩ => s'.seq hS) ?_ ?_
        · rintro i x σ H5 H6 hi ⟨v3, v4, v5, ls, rfl, s5, hfl, hlen, hrows⟩ ⟨T, x', y, rfl, hT, rfl, hx', hy⟩
          obtain rfl : V.int (i : Nat) = x' := Option.some.inj hx'
          obtain ⟨v, hv, rfl⟩ := map_at hy
          obtain ⟨v1, v8⟩ := gl v (List.mem_of_getElem? hv)
          have hvs : v.length ≤ sizeLine := Nat.le_trans v8 (by decide)
          refine ⟨T, _, rfl, SqT.of upd_same, rfl, _, _, rfl, ?_⟩
          refine ⟨_, _, rfl, rfl, ?_⟩
          have sT := same_upd (o := .tup [V.int (i : Nat), V.str v]) hT
          have hfl6 := sT _ _ hfl
          have s6 := s5.trans sT
          have hrows6 : ∀ (j : Nat) (b : Addr), ls[j]? = some b → b ≠ fl ∧ ∀ row, (blk ws z.cps.toList i)[j]? = some row → (upd H5 T (.tup [V.int (i : Nat), V.str v])) b = some (.lst (row.map natV)) := fun j b h => ⟨(hrows j b h).1, fun row hr => sT _ _ ((hrows j b h).2 row hr)⟩
          generalize upd H5 T (.tup [V.int (i : Nat), V.str v]) = H6 at sT hfl6 s6 hrows6 ⊢
          refine ⟨_, rfl, _, rfl, v, rfl, hvs, _, rfl, z, rfl, hzs, _, rfl, rfl, _, rfl, ?_⟩
          have ecut : (cutS z none (some (v.length : Int))).cps.toList = z.cps.toList.take v.length := by
            rw [cut_hi z (by omega), Int.toNat_natCast]
          have efit : decide (V.str (cutS z none (some (v.length : Int))) = V.str v) = fit v z.cps.toList := by
            unfold fit
            by_cases c : cutS z none (some (v.length : Int)) = v
            · rw [c, decide_eq_true rfl, ← ecut, c]
              simp
            · rw [decide_eq_false (fun h => c (V.str.inj h))]
              symm
              rw [beq_eq_false_iff_ne, ← ecut]
              exact fun h => c (str_of_list h)
          rw [efit]
          by_cases c : fit v z.cps.toList = true
          · rw [c]
            refine iteT ?_
            have hfv := fit_len c
            refine ⟨_, rfl, .inl ⟨rfl, _, SqL.of hfl6⟩, ?_⟩
            have ecl : (cutS z (some (v.length : Int)) none).cps.toList = z.cps.toList.drop v.length := by
              rw [cut_lo z (by omega), Int.toNat_natCast]
            have ell : (cutS z (some (v.length : Int)) none).length = z.length - v.length := by
              rw [len_lo (by omega), Int.toNat_natCast]
            refine ⟨_, rfl, _, rfl, _, rfl, v, rfl, hvs, _, rfl, z, rfl, hzs, a, ws, _, rfl, s6.seq hS, g, by omega, by omega, fun l2 H7 nl2 s7 r7 => ?_⟩
            rw [ecl] at r7
            obtain ⟨ls2, h21, h22, h23⟩ := r7
            refine ⟨l2, rfl, ⟨_, SqL.of h21⟩, fun D hD => ?_⟩
            have hfl7 := s7 _ _ hfl6
            have s07 := s6.trans s7
            refine lc_refs' walk_list (fun j => (i :: (RD ws (z.cps.toList.drop v.length)).getD j []).map natV) ?_ hD (fun H s => s.seq (SqL.of h21)) (fun _ => rfl) ?_ ?_
            · rw [List.length_map, h22]
              have h1 := RD_small gw g.nd (z.cps.toList.drop v.length)
              have h2 : (2 : Nat) ^ (z.cps.toList.drop v.length).length ≤ 2 ^ 20 := Nat.pow_le_pow_right (by decide) (by rw [List.length_drop]; omega)
              exact Nat.lt_of_le_of_lt (Nat.le_trans h1 h2) (by decide)
            · rintro j y H8 H9 N hj s8 ⟨rfl, hy2⟩ hN
              rw [List.getElem?_map] at hy2
              cases hlj : ls2[j]? with
              | none =>
                rw [hlj] at hy2
                cases hy2
              | some b =>
                rw [hlj] at hy2
                obtain rfl : V.ref b = y := Option.some.inj hy2
                have hj2 : j < (RD ws (z.cps.toList.drop v.length)).length := by
                  rw [← h22]
                  exact (List.getElem?_eq_some_iff.mp hlj).1
                have hb := s8 _ _ (h23 j b _ hlj (List.getElem?_eq_getElem hj2))
                have eg : (RD ws (z.cps.toList.drop v.length)).getD j [] = (RD ws (z.cps.toList.drop v.length))[j] := by
                  rw [List.getD_eq_getElem?_getD, List.getElem?_eq_getElem hj2]
                  rfl
                have hrl := RD_row_len gw _ (z.cps.toList.drop v.length) (Nat.le_refl _) j _ (List.getElem?_eq_getElem hj2)
                rw [List.length_drop] at hrl
                refine ⟨_, rfl, (by show 1 ≤ sizeLine; decide), fun p1 np1 => ⟨_, rfl, p1, b, _, _, rfl, rfl, upd_same, same_upd np1 _ _ hb, ?_, fun p2 np2 => hN p2 _ ((same_upd np1).free np2) ((same_upd np1).trans (same_upd np2)) ?_⟩⟩
                · rw [List.length_map]
                  exact Nat.le_trans (show 1 + _ ≤ 1 + 20 by omega) (by decide)
                · rw [upd_same, eg]
                  rfl
            · intro lsN H8 s8 h8 hlN hrN
              have hfl8 := s8 _ _ hfl7
              rw [List.length_map, h22] at hlN
              have hbl := blk_succ (t := z.cps.toList) hv
              rw [if_pos c] at hbl
              have hsz : (blk ws z.cps.toList (i + 1)).length ≤ 2 ^ 20 := Nat.le_trans (blk_le gw hne (i + 1)) (Nat.le_trans (RD_small gw g.nd _) (Nat.pow_le_pow_right (by decide) (by omega)))
              have hlen2 : (ls ++ lsN).length = (blk ws z.cps.toList (i + 1)).length := by
                rw [hbl, List.length_append, List.length_append, List.length_map, hlen, hlN]
              refine ⟨fl, D, _, _, rfl, rfl, hfl8, h8, ?_, ?_⟩
              · rw [List.length_map, List.length_map, ← List.length_append, hlen2]
                exact Nat.le_trans hsz (by decide)
              refine ⟨_, _, _, ls ++ lsN, rfl, same_set (s07.trans s8) nfl, by rw [upd_same, List.map_append], hlen2, fun j b hj => ?_⟩
              rw [hbl]
              by_cases cj : j < ls.length
              · rw [List.getElem?_append_left cj] at hj
                obtain ⟨nb, hb⟩ := hrows6 j b hj
                refine ⟨nb, fun row hrow => ?_⟩
                rw [List.getElem?_append_left (by omega)] at hrow
                rw [upd_ne nb]
                exact s8 _ _ (s7 _ _ (hb row hrow))
              · rw [List.getElem?_append_right (by omega)] at hj
                have hb := hrN _ b hj
                have nb : b ≠ fl := by
                  intro e
                  subst e
                  rw [hfl8] at hb
                  have := HO.lst.inj (Option.some.inj hb)
                  rw [List.map_cons] at this
                  cases ls with
                  | nil => cases this
                  | cons a0 r0 =>
                    rw [List.map_cons] at this
                    cases (List.cons.inj this).1
                refine ⟨nb, fun row hrow => ?_⟩
                rw [List.getElem?_append_right (by omega), ← hlen, List.getElem?_map] at hrow
                rw [upd_ne nb, hb]
                cases hrr : (RD ws (z.cps.toList.drop v.length))[j - ls.length]? with
                | none =>
                  rw [hrr] at hrow
                  cases hrow
                | some r =>
                  rw [hrr] at hrow
                  obtain rfl : i :: r = row := Option.some.inj hrow
                  rw [List.getD_eq_getElem?_getD, hrr]
                  rfl
          · have c' : fit v z.cps.toList = false := by simpa using c
            rw [c']
            refine iteF ?_
            have hbl := blk_succ (t := z.cps.toList) hv
            rw [if_neg c, List.append_nil] at hbl
            exact ⟨_, _, _, ls, rfl, s6, hfl6, by rw [hbl]; exact hlen, fun j b hj => by rw [hbl]; exact hrows6 j b hj⟩
        · rintro σ H5 ⟨v3, v4, v5, ls, rfl, s5, hfl, hlen, hrows⟩
          rw [List.length_map, blk_all gw hne] at hlen hrows
          exact ⟨_, rfl, q fl H5 nfl s5 ⟨ls, hfl, hlen, fun j b row h1 h2 => (hrows j b h1).2 row h2⟩⟩
end

end WH
namespace WH
open PySem PySem.Spec PyProof.Rows L2
section
variable {P : Program} {w : World} {K : PySem.W.Frag} {mg : Str → Option Value} {base : Heap}
/-! ### errors: WordError.__init__, and what an error class must be -/
structure ErrC (K : PySem.W.Frag) (mg : Str → Option Value) (x : Str) (C fI : Addr) : Prop where
  o : OexC K C
  g : mg x = some (.ref C)
  nv : PySem.W.findIn K (.ref C) "value" = some none
  i : PySem.W.findIn K (.ref C) "__init__" = some (some (.ref fI))
  t : PySem.W.typeIn K (.ref fI) = some (.type "function")
theorem scEInit : FnScope ["self", "value"] ["self", "value"] (defScope sEInit) := ⟨rfl, rfl, rfl, by decide +kernel, rfl, by decide +kernel, by decide +kernel⟩
def spEInit (K : PySem.W.Frag) : Sp := fun vs H Q _ => ∃ (a C : Addr) (v : V), vs = [.ref a, v] ∧ OexC K C ∧ PySem.W.findIn K (.ref C) "value" = some none ∧ H a = some (exo a C none) ∧
  ∀ dx, H dx = none → dx ≠ a → Q .non (upd (upd H dx (exd dx [("value", v)])) a (exo a C (some dx)))
theorem ok_einit {f : Addr} {fd : FuncData} {k : Nat} (F : Fun K "__init__" "WordError.__init__" sEInit f fd) : FnOk P w K mg base CX0 (k + 1) f fd ["self", "value"] (spEInit K) := by
  refine F.ok scEInit (fun vs H Q E h => ?_) (fun cdv A outer s H vs Q E hr h => ?_)
  · obtain ⟨a, C, v, rfl, _⟩ := h
    rfl
  · obtain ⟨a, C, v, rfl, T, nv, ha, q⟩ := h
    refine ⟨_, pss_one (ps_ost (pv 0) (pv 1)), ?_⟩
    exact ⟨_, rfl, _, rfl, a, C, rfl, T, nv, .inl ⟨ha, fun dx n1 n2 => q dx n1 n2⟩⟩
/-- what such an error leaves: its own dict, new, holds the value -/
def ErrAt (C : Addr) (v : V) (H : Hp) (E : XK) : Prop := ∀ (d : Addr) (H' : Hp), H d = none → Same H H' → H' d = some (.xd [(("value" : Str), v)]) → E (.ref C) (some d) H'
theorem made_err {C : Addr} {v : V} {H : Hp} {W : Value → Option Addr → Hp → Prop} (T : OexC K C) (nv : PySem.W.findIn K (.ref C) "value" = some none) (h : ErrAt C v H W) : ∀ a, H a = none → spEInit K (.ref a :: ([v] ++ [])) (upd H a (exo a C none)) (fun z H2 => z = .non ∧
    ∃ (d : Addr) (fs : List (Str × V)), H2 a = some (exo a C (some d)) ∧ H2 d = some (exd d fs) ∧ H d = none ∧ W (.ref C) (some d) (upd (del H2 a) d (.xd fs))) (fun _ _ _ => False) := by
  intro a na
  refine ⟨a, C, v, rfl, T, nv, upd_same, fun dx n1 n2 => ⟨rfl, dx, _, upd_same, by rw [upd_ne n2, upd_same], ?_, ?_⟩⟩
  · rw [upd_ne n2] at n1
    exact n1
  · have n1' : H dx = none := by
      rw [upd_ne n2] at n1
      exact n1
    refine h dx _ n1' (fun b o e => ?_) upd_same
    have nb : b ≠ a := ne_of_none e na
    have nd : b ≠ dx := ne_of_none e n1'
    rw [upd_ne nd, del_ne nb, upd_ne nb, upd_ne nd, upd_ne nb]
    exact e
end

section
variable {P : Program} {w : World} {K : PySem.W.Frag} {mg : Str → Option Value} {base : Heap}
/-! ### joined, with its error -/
theorem find_at {q : Int → Bool} : ∀ {ns : List Int} {i : Nat} {n : Int}, (∀ m ∈ ns.take i, q m = true) → ns[i]? = some n → q n = false → ns.find? (fun n => !q n) = some n
  | [], i, n, _, h, _ => by simp at h
  | m :: r, 0, n, _, h, hq => by
    have e : m = n := Option.some.inj h
    subst e
    simp [List.find?, hq]
  | m :: r, i + 1, n, ht, h, hq => by
    have hm : q m = true := ht m (by simp)
    have ih := find_at (ns := r) (i := i) (fun k hk => ht k (by simp [hk])) (by simpa using h) hq
    simp [List.find?, hm, ih]
theorem find_no {q : Int → Bool} {ns : List Int} (h : ∀ m ∈ ns, q m = true) : ns.find? (fun n => !q n) = none := by
  rw [List.find?_eq_none]
  intro m hm
  simp [h m hm]
def spCheckReading (K : PySem.W.Frag) (C CR : Addr) : Sp := fun vs H Q E => ∃ (p r : Addr) (ws : List Str) (ns : List Int), vs = [.ref p, .ref r] ∧ StkAt C H p ws ∧ SqL K H r (ns.map V.int) ∧
  (∀ n, ns.find? (fun n => !rowOk ws.length n) = some n → ∀ H1, Same H H1 → ErrAt CR (.int n) H1 E) ∧ (ns.find? (fun n => !rowOk ws.length n) = none → ∀ H', Same H H' → Q .non H')
theorem ok_checkReading {f C fi fe fw CR fI : Addr} {fd fdw fdI : FuncData} (F : Fun K "check_reading" "check_reading" sCheckReading f fd) (T : StkC K mg C fi fe fw) (ER : ErrC K mg "InvalidReading" CR fI) (GI : FnOk P w K mg base CX0 1 fI fdI ["self", "value"] (spEInit K)) (bI : Binds K fdI ["self", "value"] [])
    (Gw : FnOk P w K mg base CX0 1 fw fdw ["self"] (spSWords C)) (bw : Binds K fdw ["self"] []) (ml : mg "len" = none) : FnOk P w K mg base (L2.CX P w) 3 f fd ["stock", "reading"] (spCheckReading K C CR) := by
  refine F.okX scCheckReading (fun vs H Q E h => ?_) (fun cdv A outer s H vs Q E hr h => ?_)
  · obtain ⟨p, r, ws, ns, rfl, _⟩ := h
    rfl
  · obtain ⟨p, r, ws, ns, rfl, st, hS, qe, q⟩ := h
    obtain ⟨pp, hpp⟩ := T.prop
    refine ⟨_, pss_cons (ps_set (i := 2) scCheckReading.nd rfl (Or.inl rfl) (pe_callB call_len_seq (by rfl) ml PySem.boot_len (pa_cons (pe_prop (pv 0) T.cl hpp Gw hr bw .nil pass0 rfl) pa_nil)))
      (pss_one (ps_for (passes_of rfl) rfl (pi_list (pv 1)) (pg_name (i := 3) scCheckReading.nd rfl (Or.inl rfl))
        (pss_one (ps_if (pt_not (pt_chain op_le op_lt pe_int (pv 3) (pv 2))) (pss_one (ps_raise rfl (takes_of rfl rfl rfl rfl) (pmk_oex ER.o ER.i ER.t GI hr bI .nil pass0 (by rfl) ER.g (pa_cons (pv 3) pa_nil)))) pss_nil)))), ?_⟩
    obtain ⟨dx, t, e1, e2⟩ := id st
    refine ⟨_, rfl, p, dx, _, rfl, e1, p, ws, rfl, st, fun l H1 nl s1 hl => ⟨l, _, rfl, .inl (SqL.of hl), ?_⟩⟩
    refine ⟨_, rfl, r, rfl, ⟨_, s1.seq hS⟩, for_list (K := K) (a := r) (xs := ns.map V.int) (fun i σ H' => ∃ v : Option V, σ = [some (.ref p), some (.ref r), some (.int (((ws.map V.str).length : Nat) : Int)), v] ∧ Same H H' ∧ ∀ n ∈ ns.take i, rowOk ws.length n = true)
      ⟨none, rfl, s1, fun n hn => by simp at hn⟩ (fun i σ H' _ ⟨_, _, s', _⟩ => s'.seq hS) ?_ ?_⟩
    · rintro i y σ H' hi ⟨v, rfl, s', ok⟩
      obtain ⟨n, hn, rfl⟩ := int_at hi
      have good : rowOk ws.length n = true → ∃ v : Option V, ([some (.ref p), some (.ref r), some (.int (((ws.map V.str).length : Nat) : Int)), some (.int n)] : Sl) = [some (.ref p), some (.ref r), some (.int (((ws.map V.str).length : Nat) : Int)), v] ∧ Same H H' ∧ ∀ m ∈ ns.take (i + 1), rowOk ws.length m = true := by
        intro hk
        refine ⟨_, rfl, s', fun m hm => ?_⟩
        rw [take_snoc hn] at hm
        rcases List.mem_append.mp hm with z | z
        · exact ok m z
        · have e : m = n := by simpa using z
          rw [e]
          exact hk
      have bad : rowOk ws.length n = false → ErrAt CR (.int n) H' E := fun hk => qe n (find_at ok hn hk) H' s'
      refine ⟨_, rfl, _, _, rfl, rfl, _, rfl, ?_⟩
      by_cases c1 : (0 : Int) ≤ n
      · rw [decide_eq_true c1]
        refine iteT ?_
        refine ⟨_, rfl, _, _, rfl, rfl, _, rfl, ?_⟩
        have el : (((ws.map V.str).length : Nat) : Int) = (ws.length : Int) := by rw [List.length_map]
        by_cases c2 : n < (((ws.map V.str).length : Nat) : Int)
        · rw [decide_eq_true c2]
          refine iteF (good ?_)
          unfold rowOk
          rw [decide_eq_true c1, decide_eq_true (by omega)]
          rfl
        · rw [decide_eq_false c2]
          refine iteT ?_
          refine ⟨_, rfl, (by show 1 ≤ 1000; decide), made_err ER.o ER.nv (bad ?_)⟩
          unfold rowOk
          rw [decide_eq_false (show ¬ n < (ws.length : Int) by omega)]
          simp
      · rw [decide_eq_false c1]
        refine iteF ?_
        refine ⟨_, rfl, iteT ?_⟩
        refine ⟨_, rfl, (by show 1 ≤ 1000; decide), made_err ER.o ER.nv (bad ?_)⟩
        unfold rowOk
        rw [decide_eq_false c1]
        simp
    · rintro σ H' ⟨v, rfl, s', ok⟩
      rw [List.length_map, List.take_length] at ok
      exact q (find_no ok) H' s'
def spJoined (K : PySem.W.Frag) (C CR : Addr) : Sp := fun vs H Q E => ∃ (p r : Addr) (ws : List Str) (ns : List Int), vs = [.ref p, .ref r] ∧ StkAt C H p ws ∧ Good ws ∧ SqL K H r (ns.map V.int) ∧ ns.length ≤ 100000 ∧
  (∀ n, ns.find? (fun n => !rowOk ws.length n) = some n → ∀ H1, Same H H1 → ErrAt CR (.int n) H1 E) ∧ (ns.find? (fun n => !rowOk ws.length n) = none → ∀ H', Same H H' → Q (.str (run ws ns)) H')
theorem find_none {q : Int → Bool} {ns : List Int} (h : ns.find? (fun n => !q n) = none) : ∀ m ∈ ns, q m = true := by
  rw [List.find?_eq_none] at h
  intro m hm
  have := h m hm
  simpa using this
theorem ok_joined {f C fi fe fw CR fc : Addr} {fd fdw fdc : FuncData} (F : Fun K "joined" "joined" sJoined f fd) (T : StkC K mg C fi fe fw) (GC : FnOk P w K mg base (L2.CX P w) 3 fc fdc ["stock", "reading"] (spCheckReading K C CR)) (bC : Binds K fdc ["stock", "reading"] []) (kC : PySem.W.keepIn K (.ref fc) = true)
    (gC : mg "check_reading" = some (.ref fc)) (Gw : FnOk P w K mg base CX0 1 fw fdw ["self"] (spSWords C)) (bw : Binds K fdw ["self"] []) : FnOk P w K mg base (L2.CX P w) 4 f fd ["stock", "reading"] (spJoined K C CR) := by
  refine F.okX scJoined (fun vs H Q E h => ?_) (fun cdv A outer s H vs Q E hr h => ?_)
  · obtain ⟨p, r, ws, ns, rfl, _⟩ := h
    rfl
  · obtain ⟨p, r, ws, ns, rfl, st, g, hS, hl, qe, q⟩ := h
    obtain ⟨pp, hpp⟩ := T.prop
    have hr2 : Room 2 _ := hr.mono (by decide)
    refine ⟨_, pss_cons (ps_expr (pe_call GC hr (by rfl) gC kC bC .nil (passes_call (takes_of rfl rfl rfl rfl) (fun _ _ _ _ h => h)) (pa_cons (pv 0) (pa_cons (pv 1) pa_nil))))
      (pss_cons (ps_set (i := 2) scJoined.nd rfl (Or.inr rfl) (pe_prop (pv 0) T.cl hpp Gw hr2 bw .nil pass0 rfl))
      (pss_one (ps_ret (pe_join pe_str (pe_lc (own := [("number", 3)]) (g := gName 3) (tt := tYes) rfl scJoined.nd (pi_list (pv 1)) (blkOk_by (N := ["stock", "reading", "words", "number"]) (sc := defScope sJoined) (by decide +kernel)) (fun _ _ _ _ _ => pg_name (i := 3) scJoined.nd rfl (Or.inl rfl)) (fun _ _ _ _ _ => pts_nil)
        (fun _ _ _ _ _ => pe_ix (show IxR _ (rIxL K) from ix_list) (pv 2) (pv 3) (fun _ _ => rfl))))))), ?_⟩
    refine ⟨_, rfl, _, rfl, p, r, ws, ns, rfl, st, hS, qe, fun hno H1 s1 => ?_⟩
    have okAll := find_none hno
    obtain ⟨dx, t, e1, e2⟩ := id (st.same s1)
    refine ⟨_, rfl, p, dx, _, rfl, e1, p, ws, rfl, st.same s1, fun l H2 nl s2 h2 => ?_⟩
    refine ⟨⟨_, rfl⟩, _, rfl, r, rfl, ⟨_, (s1.trans s2).seq hS⟩, fun D hD => ?_⟩
    refine lc_fm walk_list (fun i => some (.str (ws.getD (ns.getD i 0).toNat ⟨#[]⟩))) ?_ hD (fun H' s' => ((s1.trans s2).trans s').seq hS) ?_ ?_
    · rw [List.length_map]
      exact Nat.lt_of_le_of_lt hl (by decide)
    · rintro i y H3 H4 N hi s3 ⟨rfl, hy⟩ hN
      obtain ⟨n, hn, rfl⟩ := int_at hy
      obtain ⟨x, hx, ex⟩ := row_at (okAll n (List.mem_of_getElem? hn))
      refine ⟨rfl, yesT ?_⟩
      refine ⟨_, rfl, _, rfl, l, _, _, _, rfl, rfl, SqL.of (s3 _ _ h2), hx, ?_⟩
      have e : ns.getD i 0 = n := by rw [List.getD_eq_getElem?_getD, hn]; rfl
      have hN' := hN H4 (Same.refl _)
      rw [e, ex] at hN'
      exact hN'
    · intro H3 s3 h3
      have ef : fmr (fun i => some (V.str (ws.getD (ns.getD i 0).toNat ⟨#[]⟩))) (ns.map V.int).length = (ns.map fun n => ws.getD n.toNat ⟨#[]⟩).map V.str := by
        rw [fmr_map, List.length_map]
        apply List.ext_getElem
        · simp
        · intro i h1 h2'
          simp at h1 h2'
          simp [h1]
      rw [ef] at h3
      refine ⟨_, D, _, rfl, rfl, .inl (SqL.of h3), ?_, ?_⟩
      · have h8 := run_len (fun x hx => (isW_len (g.w x hx)).2) ns
        show _ + _ * 0 ≤ 16777216
        omega
      · rw [join_cat (by rfl)]
        exact q hno H3 ((s1.trans s2).trans s3)
end

end WH
namespace WH
open PySem PySem.Spec PyProof.Rows L2
structure CalX (P : Program) (w : World) (K : PySem.W.Frag) (mg : Str → Option Value) (base : Heap) (k : Nat) (x : Str) (ps : List Str) (sp : Sp) (f : Addr) (fd : FuncData) : Prop where
  G : FnOk P w K mg base (L2.CX P w) k f fd ps sp
  b : Binds K fd ps []
  k : PySem.W.keepIn K (.ref f) = true
  g : mg x = some (.ref f)
/-- an error class with its __init__ -/
structure ErrX (P : Program) (w : World) (K : PySem.W.Frag) (mg : Str → Option Value) (base : Heap) (x : Str) (C fI : Addr) (fdI : FuncData) : Prop where
  c : ErrC K mg x C fI
  G : FnOk P w K mg base CX0 1 fI fdI ["self", "value"] (spEInit K)
  b : Binds K fdI ["self", "value"] []
section
variable {P : Program} {w : World} {K : PySem.W.Frag} {mg : Str → Option Value} {base : Heap}
def spCheckTextX (CT : Addr) : Sp := fun vs H Q E => ∃ z : Str, vs = [.str z] ∧ z.length ≤ 100000 ∧ (isL z = false → ∀ H1, Same H H1 → ErrAt CT (.str z) H1 E) ∧ (isL z = true → ∀ H', Same H H' → Q .non H')
theorem ok_checkTextX {f fL CT fI : Addr} {fd fdL fdI : FuncData} (F : Fun K "check_text" "check_text" sCheckText f fd) (ET : ErrX P w K mg base "InvalidText" CT fI fdI) (IL : Cal P w K mg base 1 "is_letters" ["text"] spIsLetters fL fdL) :
    FnOk P w K mg base (L2.CX P w) 3 f fd ["text"] (spCheckTextX CT) := by
  refine F.okX scCheckText (fun vs H Q E h => ?_) (fun cdv A outer s H vs Q E hr h => ?_)
  · obtain ⟨z, rfl, _⟩ := h
    rfl
  · obtain ⟨z, rfl, hz, qe, q⟩ := h
    have hr1 : Room 1 _ := hr.mono (by decide)
    have hr2 : Room 2 _ := hr.mono (by decide)
    refine ⟨_, (pss_one (ps_if (pt_not (pt_val (pe_call IL.G hr1 (by rfl) IL.g IL.k IL.b .nil pass0 (pa_cons (pv 0) pa_nil)))) (pss_one (ps_raise rfl (takes_of rfl rfl rfl rfl) (pmk_oex ET.c.o ET.c.i ET.c.t ET.G hr2 ET.b .nil pass0 (by rfl) ET.c.g (pa_cons (pv 0) pa_nil)))) pss_nil)), ?_⟩
    refine ⟨_, rfl, z, rfl, hz, fun H' s' => ⟨_, rfl, ?_⟩⟩
    cases hL : isL z with
    | true => exact iteF (q hL H' s')
    | false => exact iteT ⟨_, rfl, (by show 1 ≤ 1000; decide), made_err ET.c.o ET.c.nv (qe hL H' s')⟩
def spCountX (C CT : Addr) : Sp := fun vs H Q E => ∃ (p : Addr) (ws : List Str) (z : Str), vs = [.ref p, .str z] ∧ StkAt C H p ws ∧ Good ws ∧ z.length ≤ 100000 ∧ (isL z = false → ∀ H1, Same H H1 → ErrAt CT (.str z) H1 E) ∧ (isL z = true → ∀ H', Same H H' → Q (.int ((cnt ws z : Nat) : Int)) H')
theorem ok_countX {f C fi fe fw CT fc fa : Addr} {fd fdw fdc fda : FuncData} (F : Fun K "count_readings" "count_readings" sCount f fd) (T : StkC K mg C fi fe fw) (Gw : FnOk P w K mg base CX0 1 fw fdw ["self"] (spSWords C)) (bw : Binds K fdw ["self"] [])
    (CT' : CalX P w K mg base 3 "check_text" ["text"] (spCheckTextX CT) fc fdc) (AW : Cal P w K mg base 2 "all_ways" ["words", "text"] (spAllWays K) fa fda) : FnOk P w K mg base (L2.CX P w) 4 f fd ["stock", "text"] (spCountX C CT) := by
  refine F.okX scCount (fun vs H Q E h => ?_) (fun cdv A outer s H vs Q E hr h => ?_)
  · obtain ⟨p, ws, z, rfl, _⟩ := h
    rfl
  · obtain ⟨p, ws, z, rfl, st, g, hz, qe, q⟩ := h
    obtain ⟨pp, hpp⟩ := T.prop
    have hr1 : Room 2 _ := hr.mono (by decide)
    have hr2 : Room 2 _ := hr.mono (by decide)
    have hr3 : Room 3 _ := hr
    refine ⟨_, (pss_cons (ps_expr (pe_call CT'.G hr3 (by rfl) CT'.g CT'.k CT'.b .nil (passes_call (takes_of rfl rfl rfl rfl) (fun _ _ _ _ h => h)) (pa_cons (pv 1) pa_nil)))
      (pss_one (ps_ret (pe_ix ix_list (pe_call AW.G hr2 (by rfl) AW.g AW.k AW.b .nil pass0 (pa_cons (pe_prop (pv 0) T.cl hpp Gw hr1 bw .nil pass0 rfl) (pa_cons (pv 1) pa_nil))) pe_int (fun _ _ => rfl))))), ?_⟩
    refine ⟨_, rfl, z, rfl, hz, qe, fun hL H1 s1 => ?_⟩
    obtain ⟨dx, t, e1, e2⟩ := id (st.same s1)
    refine ⟨_, rfl, p, dx, _, rfl, e1, p, ws, rfl, st.same s1, fun l H2 nl s2 h2 => ?_⟩
    refine ⟨_, rfl, l, ws, z, rfl, SqL.of h2, good_len g, g.hi, hz, fun wy H3 nw s3 h3 => ?_⟩
    exact ⟨wy, _, _, _, rfl, rfl, SqL.of h3, atI_nat (j := 0) wl_head, q hL H3 ((s1.trans s2).trans s3)⟩
def spIsTextX (C CT : Addr) : Sp := fun vs H Q E => ∃ (p : Addr) (ws : List Str) (z : Str), vs = [.ref p, .str z] ∧ StkAt C H p ws ∧ Good ws ∧ z.length ≤ 100000 ∧ (isL z = false → ∀ H1, Same H H1 → ErrAt CT (.str z) H1 E) ∧ (isL z = true → ∀ H', Same H H' → Q (.bl (decide (0 < cnt ws z))) H')
theorem ok_isTextX {f C CT fc : Addr} {fd fdc : FuncData} (F : Fun K "is_text" "is_text" sIsText f fd) (CO : CalX P w K mg base 4 "count_readings" ["stock", "text"] (spCountX C CT) fc fdc) : FnOk P w K mg base (L2.CX P w) 5 f fd ["stock", "text"] (spIsTextX C CT) := by
  refine F.okX scIsText (fun vs H Q E h => ?_) (fun cdv A outer s H vs Q E hr h => ?_)
  · obtain ⟨p, ws, z, rfl, _⟩ := h
    rfl
  · obtain ⟨p, ws, z, rfl, st, g, hz, qe, q⟩ := h
    have hr4 : Room 4 _ := hr
    refine ⟨_, (pss_one (ps_ret (pe_cmpR op_gt (pe_call CO.G hr4 (by rfl) CO.g CO.k CO.b .nil (passes_call (takes_of rfl rfl rfl rfl) (fun _ _ _ _ h => h)) (pa_cons (pv 0) (pa_cons (pv 1) pa_nil))) pe_int (nomark _)))), ?_⟩
    refine ⟨_, rfl, _, rfl, p, ws, z, rfl, st, g, hz, qe, fun hL H' s' => ⟨_, _, rfl, rfl, ?_⟩⟩
    have e : decide ((0 : Int) < ((cnt ws z : Nat) : Int)) = decide (0 < cnt ws z) := by
      by_cases c : 0 < cnt ws z
      · rw [decide_eq_true c, decide_eq_true (by omega)]
      · rw [decide_eq_false c, decide_eq_false (by omega)]
    show Q (.bl (decide ((0 : Int) < ((cnt ws z : Nat) : Int)))) H'
    rw [e]
    exact q hL H' s'
def spNthX (C CT CN : Addr) : Sp := fun vs H Q E => ∃ (p : Addr) (ws : List Str) (z : Str) (i : Int), vs = [.ref p, .str z, .int i] ∧ StkAt C H p ws ∧ Good ws ∧ z.length ≤ 100000 ∧ (isL z = false → ∀ H1, Same H H1 → ErrAt CT (.str z) H1 E) ∧
  (isL z = true → ¬ (0 ≤ i ∧ i < ((cnt ws z : Nat) : Int)) → ∀ H1, Same H H1 → ErrAt CN (.int i) H1 E) ∧
  (isL z = true → ∀ (k : Nat) row, i = (k : Int) → (RD ws z.cps.toList)[k]? = some row → ∀ l H', H l = none → Same H H' → H' l = some (.lst (row.map natV)) → Q (.ref l) H')
theorem ok_nthX {f C fi fe fw CT CN fI fc fa fx : Addr} {fd fdw fdI fdc fda fdx : FuncData} (F : Fun K "nth_reading" "nth_reading" sNth f fd) (B : Bu mg) (T : StkC K mg C fi fe fw) (Gw : FnOk P w K mg base CX0 1 fw fdw ["self"] (spSWords C)) (bw : Binds K fdw ["self"] []) (EN : ErrX P w K mg base "InvalidNumber" CN fI fdI)
    (CT' : CalX P w K mg base 3 "check_text" ["text"] (spCheckTextX CT) fc fdc) (AW : Cal P w K mg base 2 "all_ways" ["words", "text"] (spAllWays K) fa fda) (WA : Cal P w K mg base 2 "word_at_index" ["words", "text", "place", "ways", "index"] (spWordAt K) fx fdx) :
    FnOk P w K mg base (L2.CX P w) 4 f fd ["stock", "text", "index"] (spNthX C CT CN) := by
  refine F.okX scNth (fun vs H Q E h => ?_) (fun cdv A outer s H vs Q E hr h => ?_)
  · obtain ⟨p, ws, z, i, rfl, _⟩ := h
    rfl
  · obtain ⟨p, ws, z, i, rfl, st, g, hz, qe, qn, q⟩ := h
    obtain ⟨pp, hpp⟩ := T.prop
    have hr2 : Room 2 _ := hr.mono (by decide)
    have hr1 : Room 2 _ := hr.mono (by decide)
    have hr3 : Room 3 _ := hr
    refine ⟨_, (pss_cons (ps_expr (pe_call CT'.G hr3 (by rfl) CT'.g CT'.k CT'.b .nil (passes_call (takes_of rfl rfl rfl rfl) (fun _ _ _ _ h => h)) (pa_cons (pv 1) pa_nil)))
      (pss_cons (ps_set (i := 3) scNth.nd rfl (Or.inl rfl) (pe_prop (pv 0) T.cl hpp Gw hr1 bw .nil pass0 rfl))
      (pss_cons (ps_set (i := 4) scNth.nd rfl (Or.inl rfl) (pe_call AW.G hr2 (by rfl) AW.g AW.k AW.b .nil pass0 (pa_cons (pv 3) (pa_cons (pv 1) pa_nil))))
      (pss_cons (ps_if (pt_not (pt_chain op_le op_lt pe_int (pv 2) (pe_ix ix_list (pv 4) pe_int (fun _ _ => rfl)))) (pss_one (ps_raise rfl (takes_of rfl rfl rfl rfl) (pmk_oex EN.c.o EN.c.i EN.c.t EN.G hr2 EN.b .nil pass0 (by rfl) EN.c.g (pa_cons (pv 2) pa_nil)))) pss_nil)
      (pss_cons (ps_set (i := 5) scNth.nd rfl (Or.inl rfl) (pe_lst pa_nil))
      (pss_cons (ps_set (i := 6) scNth.nd rfl (Or.inl rfl) pe_int)
      (pss_cons (ps_set (i := 7) scNth.nd rfl (Or.inl rfl) (pv 2))
      (pss_cons (ps_while (passes_of rfl) (pt_cmpR op_lt (pv 6) (pe_callB call_len_str (by rfl) B.len (by decide +kernel) (pa_cons (pv 1) pa_nil)) (nomark _)) (pss_cons (ps_asg (pe_call WA.G hr2 (by rfl) WA.g WA.k WA.b .nil pass0 (pa_cons (pv 3) (pa_cons (pv 1) (pa_cons (pv 6) (pa_cons (pv 4) (pa_cons (pv 7) pa_nil)))))) (pg_tup rfl (pgs_cons (pg_name (i := 8) scNth.nd rfl (Or.inl rfl)) (pgs_cons (pg_name (i := 7) scNth.nd rfl (Or.inl rfl)) pgs_nil))))
      (pss_cons (ps_expr (pe_bm PySem.F.plainAttrs_list PySem.F.slot_list_append PySem.F.type_list_append mt_append (pv 5) (pa_cons (pv 8) pa_nil)))
      (pss_one (ps_aug (i := 6) scNth.nd rfl (Or.inl rfl) (pe_callB call_len_str (by rfl) B.len (by decide +kernel) (pa_cons (pe_ix ix_list (pv 3) (pv 8) (fun _ _ => rfl)) pa_nil)) ip_add)))))
      (pss_one (ps_ret (pv 5))))))))))), ?_⟩
    have gl := good_len g
    have gw := fun x hx => (gl x hx).1
    have hzl := len_list z
    refine ⟨_, rfl, z, rfl, hz, qe, fun hL H1 s1 => ?_⟩
    obtain ⟨dx, t, e1, e2⟩ := id (st.same s1)
    refine ⟨_, rfl, p, dx, _, rfl, e1, p, ws, rfl, st.same s1, fun l H2 nl s2 h2 => ?_⟩
    refine ⟨_, rfl, _, rfl, l, ws, z, rfl, SqL.of h2, gl, g.hi, hz, fun wy H3 nw s3 h3 => ?_⟩
    have s13' := (s1.trans s2).trans s3
    by_cases cr : 0 ≤ i ∧ i < ((cnt ws z : Nat) : Int)
    case neg =>
      refine ⟨_, rfl, _, _, rfl, rfl, _, rfl, ?_⟩
      by_cases c0 : 0 ≤ i
      · rw [decide_eq_true c0]
        refine iteT ?_
        refine ⟨_, rfl, wy, _, _, _, rfl, rfl, SqL.of h3, atI_nat (j := 0) wl_head, _, _, rfl, rfl, _, rfl, ?_⟩
        rw [decide_eq_false (fun z => cr ⟨c0, z⟩)]
        exact iteT ⟨_, rfl, (by show 1 ≤ 1000; decide), made_err EN.c.o EN.c.nv (qn hL cr H3 s13')⟩
      · rw [decide_eq_false c0]
        refine iteF ?_
        exact ⟨_, rfl, iteT ⟨_, rfl, (by show 1 ≤ 1000; decide), made_err EN.c.o EN.c.nv (qn hL cr H3 s13')⟩⟩
    case pos =>
    obtain ⟨i, rfl⟩ : ∃ k : Nat, i = (k : Int) := ⟨i.toNat, by omega⟩
    have hcnt : i < cnt ws z := by omega
    obtain ⟨row, hrow⟩ : ∃ row, (RD ws z.cps.toList)[i]? = some row := ⟨_, List.getElem?_eq_getElem (by rw [RD_len gw]; exact hcnt)⟩
    have q := q hL i row rfl hrow
    have s13 := s13'
    refine ⟨_, rfl, _, _, rfl, rfl, _, rfl, ?_⟩
    rw [decide_eq_true (show (0 : Int) ≤ (i : Int) by omega)]
    refine iteT ?_
    refine ⟨_, rfl, wy, _, _, _, rfl, rfl, SqL.of h3, atI_nat (j := 0) wl_head, _, _, rfl, rfl, _, rfl, ?_⟩
    rw [decide_eq_true (show (i : Int) < ((cnt ws z : Nat) : Int) by omega)]
    refine iteF ?_
    refine ⟨Nat.zero_le _, fun rl nrl => ?_⟩
    have s4 := same_upd (o := .lst []) nrl
    have hrl : (upd H3 rl (.lst [])) rl = some (.lst (([] : List Nat).map natV)) := upd_same
    have nrl0 : H rl = none := s13.free nrl
    have hrlw : rl ≠ wy := (ne_of_none h3 nrl).symm
    have hrll : rl ≠ l := (ne_of_none (s3 _ _ h2) nrl).symm
    have hw4 := s4 _ _ h3
    have hl4 := s4 _ _ (s3 _ _ h2)
    have s04 := s13.trans s4
    generalize upd H3 rl (.lst []) = H4 at s4 hrl hw4 hl4 s04 ⊢
    refine ⟨_, rfl, ?_⟩
    refine ⟨fun μ σ H' => ∃ (m k : Nat) (pre rest : List Nat) (v8 : Option V), σ = [some (.ref p), some (.str z), some (.int i), some (.ref l), some (.ref wy), some (.ref rl), some (.int m), some (.int k), v8] ∧ Same H H' ∧ H' l = some (.lst (ws.map V.str)) ∧ H' wy = some (.lst ((wl ws z.cps.toList).map fun y => V.int (y : Nat))) ∧ H' rl = some (.lst (pre.map natV)) ∧ m ≤ z.length ∧ pre.length ≤ m ∧ (RD ws (z.cps.toList.drop m))[k]? = some rest ∧ row = pre ++ rest ∧ μ = z.length - m,
      ⟨_, 0, i, [], row, none, rfl, s04, hl4, hw4, hrl, Nat.zero_le _, Nat.le_refl _, hrow, rfl, rfl⟩, ?_⟩
    rintro μ σ H5 ⟨m, k, pre, rest, v8, rfl, s5, hl5, hw5, hr5, hm, hpm, hk, hre, rfl⟩
    refine ⟨_, rfl, _, rfl, z, rfl, Nat.le_trans hz (by decide), _, _, rfl, rfl, ?_⟩
    rcases Nat.lt_or_ge m z.length with c | c
    · have hne : z.cps.toList.drop m ≠ [] := by
        intro e
        have := congrArg List.length e
        rw [List.length_drop] at this
        simp only [List.length_nil] at this
        omega
      obtain ⟨b, k', v, rest', h1, h2', h3', h4', rfl, h5⟩ := RD_nth gw hne hk
      obtain ⟨v1, v8'⟩ := gl v (List.mem_of_getElem? h1)
      have hf := fit_len h2'
      rw [List.length_drop] at hf
      refine ⟨true, by show V.bl (decide ((m : Int) < (z.length : Int))) = V.bl true; rw [decide_eq_true (by omega)], ?_⟩
      refine iteT ⟨_, fun _ _ h => h, ?_⟩
      refine ⟨_, rfl, _, rfl, _, rfl, _, rfl, _, rfl, l, wy, ws, z, m, k, rfl, SqL.of hl5, SqL.of hw5, gl, c, hz, b, k', v, h1, h3', h4', fun tp H6 ntp s6 h6 => ?_⟩
      refine ⟨tp, _, rfl, SqT.of h6, rfl, _, _, rfl, ?_⟩
      refine ⟨_, _, rfl, rfl, ?_⟩
      have hr6 := s6 _ _ hr5
      have hl6 := s6 _ _ hl5
      have hw6 := s6 _ _ hw5
      refine ⟨_, rfl, .inl ⟨rfl, _, SqL.of hr6⟩, _, rfl, rl, _, _, rfl, rfl, hr6, ?_, ?_⟩
      · rw [List.length_map]
        exact Nat.lt_of_le_of_lt (show pre.length ≤ 100000 by omega) (by decide)
      refine ⟨_, rfl, _, rfl, _, rfl, l, _, _, _, rfl, rfl, SqL.of (by rw [upd_ne hrll.symm]; exact hl6), atI_nat (j := b) (by rw [List.getElem?_map, h1]; rfl), v, rfl, Nat.le_trans v8' (by decide), _, _, rfl, rfl, ?_⟩
      refine ⟨z.length - (m + v.length), by omega, m + v.length, k', pre ++ [b], rest', _, rfl, same_set (s5.trans s6) nrl0, by rw [upd_ne hrll.symm]; exact hl6, by rw [upd_ne hrlw.symm]; exact hw6, by rw [upd_same, List.map_append]; rfl, by omega, ?_, ?_, ?_, rfl⟩
      · rw [List.length_append, List.length_singleton]
        omega
      · rw [← List.drop_drop]
        exact h5
      · rw [hre, List.append_assoc]
        rfl
    · have em : m = z.length := by omega
      have ed : z.cps.toList.drop m = [] := List.drop_of_length_le (by omega)
      rw [ed, RD_nil] at hk
      have er : rest = [] := by
        cases k with
        | zero => exact (Option.some.inj hk).symm
        | succ k => simp at hk
      subst er
      rw [List.append_nil] at hre
      subst hre
      refine ⟨false, by show V.bl (decide ((m : Int) < (z.length : Int))) = V.bl false; rw [decide_eq_false (by omega)], ?_⟩
      exact iteF ⟨_, rfl, q rl H5 nrl0 s5 hr5⟩
def spIndexX (K : PySem.W.Frag) (C CR : Addr) : Sp := fun vs H Q E => ∃ (p r : Addr) (ws : List Str) (ns : List Int), vs = [.ref p, .ref r] ∧ StkAt C H p ws ∧ Good ws ∧ SqL K H r (ns.map V.int) ∧ ns.length ≤ 10000 ∧
  (∀ n, ns.find? (fun n => !rowOk ws.length n) = some n → ∀ H1, Same H H1 → ErrAt CR (.int n) H1 E) ∧ (∀ row : List Nat, ns = row.map (fun (n : Nat) => (n : Int)) → (∀ i ∈ row, i < ws.length) → ∀ H', Same H H' → Q (.int ((idx ws (codes ws row) row : Nat) : Int)) H')
theorem nats_of {m : Nat} {ns : List Int} (h : ∀ n ∈ ns, rowOk m n = true) : ∃ row : List Nat, ns = row.map (fun (n : Nat) => (n : Int)) ∧ ∀ i ∈ row, i < m := by
  have h' : ∀ n ∈ ns, 0 ≤ n ∧ n < (m : Int) := fun n hn => by
    have := h n hn
    unfold rowOk at this
    simpa only [Bool.and_eq_true, decide_eq_true_eq] using this
  refine ⟨ns.map Int.toNat, ?_, fun i hi => ?_⟩
  · rw [List.map_map]
    conv => lhs; rw [← List.map_id ns]
    refine List.map_congr_left fun n hn => ?_
    have := h' n hn
    show n = ((n.toNat : Nat) : Int)
    omega
  · obtain ⟨n, hn, rfl⟩ := List.mem_map.mp hi
    have := h' n hn
    omega
theorem ok_indexX {f C fi fe fw CR fc fa fx : Addr} {fd fdw fdc fda fdx : FuncData} (F : Fun K "reading_index" "reading_index" sIndex f fd) (B : Bu mg) (Bs : mg "sum" = none) (T : StkC K mg C fi fe fw) (Gw : FnOk P w K mg base CX0 1 fw fdw ["self"] (spSWords C)) (bw : Binds K fdw ["self"] [])
    (JO : CalX P w K mg base 4 "joined" ["stock", "reading"] (spJoined K C CR) fc fdc) (AW : Cal P w K mg base 2 "all_ways" ["words", "text"] (spAllWays K) fa fda) (WW : Cal P w K mg base 1 "ways_with" ["word", "text", "place", "ways"] (spWaysWith K) fx fdx) :
    FnOk P w K mg base (L2.CX P w) 5 f fd ["stock", "reading"] (spIndexX K C CR) := by
  refine F.okX scIndex (fun vs H Q E h => ?_) (fun cdv A outer s H vs Q E hr h => ?_)
  · obtain ⟨p, r, ws, ns, rfl, _⟩ := h
    rfl
  · obtain ⟨p, r, ws, ns, rfl, st, g, hS, hl, qe, q⟩ := h
    obtain ⟨pp, hpp⟩ := T.prop
    have hr4 : Room 4 _ := hr.mono (by decide)
    have hr2 : Room 2 _ := hr.mono (by decide)
    have hr0 : Room 1 _ := hr.mono (by decide)
    have hr1 : Room 2 _ := hr.mono (by decide)
    refine ⟨_, (pss_cons (ps_set (i := 2) scIndex.nd rfl (Or.inr rfl) (pe_call JO.G hr4 (by rfl) JO.g JO.k JO.b .nil (passes_call (takes_of rfl rfl rfl rfl) (fun _ _ _ _ h => h)) (pa_cons (pv 0) (pa_cons (pv 1) pa_nil))))
      (pss_cons (ps_set (i := 3) scIndex.nd rfl (Or.inl rfl) (pe_prop (pv 0) T.cl hpp Gw hr1 bw .nil pass0 rfl))
      (pss_cons (ps_set (i := 4) scIndex.nd rfl (Or.inr rfl) (pe_call AW.G hr2 (by rfl) AW.g AW.k AW.b .nil pass0 (pa_cons (pv 3) (pa_cons (pv 2) pa_nil))))
      (pss_cons (ps_set (i := 5) scIndex.nd rfl (Or.inl rfl) pe_int)
      (pss_cons (ps_set (i := 6) scIndex.nd rfl (Or.inr rfl) pe_int)
      (pss_cons (ps_for (passes_of rfl) rfl (pi_list (pv 1)) (pg_name (i := 7) scIndex.nd rfl (Or.inl rfl)) (pss_cons (ps_aug (i := 5) scIndex.nd rfl (Or.inl rfl) (pe_callB (cr_sum rfl) (by rfl) Bs (by decide +kernel) (pa_cons (pe_lc (own := [("word", 8)]) (g := gName 8) (tt := tYes) rfl scIndex.nd (pi_list (pe_slice sl_list (pv 3) po_none (po_some (pv 7)))) (blkOk_by (N := ["stock", "reading", "text", "words", "ways", "index", "place", "number", "word"]) (sc := defScope sIndex) (by decide +kernel)) (fun _ _ _ _ _ => pg_name (i := 8) scIndex.nd rfl (Or.inl rfl)) (fun _ _ _ _ _ => pts_nil) (fun _ _ _ _ _ => (pe_call WW.G hr0 (by rfl) WW.g WW.k WW.b .nil pass0 (pa_cons (pv 8) (pa_cons (pv 2) (pa_cons (pv 6) (pa_cons (pv 4) pa_nil))))))) pa_nil)) ip_add)
      (pss_one (ps_aug (i := 6) scIndex.nd rfl (Or.inr rfl) (pe_callB call_len_str (by rfl) B.len (by decide +kernel) (pa_cons (pe_ix ix_list (pv 3) (pv 7) (fun _ _ => rfl)) pa_nil)) ip_add))))
      (pss_one (ps_ret (pv 5))))))))), ?_⟩
    have gl := good_len g
    refine ⟨_, rfl, _, rfl, p, r, ws, _, rfl, st, g, hS, by omega, qe, fun hno H1 s1 => ?_⟩
    obtain ⟨row, rfl, ok⟩ := nats_of (find_none hno)
    have q := q row rfl ok
    rw [List.length_map] at hl
    have hz8 := run_len (fun x hx => (gl x hx).2) (row.map fun (n : Nat) => (n : Int))
    have hz : (run ws (row.map fun (n : Nat) => (n : Int))).length ≤ 80000 := by
      unfold run
      rw [catS_len]
      rw [List.length_map (as := row)] at hz8
      omega
    have hzc := run_codes ws row
    have hzl := len_list (run ws (row.map fun (n : Nat) => (n : Int)))
    generalize run ws (row.map fun (n : Nat) => (n : Int)) = z at hz hzc hzl ⊢
    obtain ⟨dx, t, e1, e2⟩ := id (st.same s1)
    refine ⟨_, rfl, p, dx, _, rfl, e1, p, ws, rfl, st.same s1, fun l H2 nl s2 h2 => ?_⟩
    refine ⟨_, rfl, _, rfl, l, ws, z, rfl, SqL.of h2, gl, g.hi, by omega, fun wy H3 nw s3 h3 => ?_⟩
    have s13 := (s1.trans s2).trans s3
    have hl3 := s3 _ _ h2
    refine ⟨_, rfl, r, rfl, ⟨_, s13.seq hS⟩, for_list (K := K) (a := r) (xs := (row.map fun (n : Nat) => (n : Int)).map V.int) (fun i σ H' => ∃ (v : Nat) (v7 v8 : Option V), σ = [some (.ref p), some (.ref r), some (.str z), some (.ref l), some (.ref wy), some (.int v), some (.int ((codes ws (row.take i)).length : Nat)), v7, v8] ∧ Same H H' ∧ H' l = some (.lst (ws.map V.str)) ∧ H' wy = some (.lst ((wl ws z.cps.toList).map fun y => V.int (y : Nat))) ∧ v + idx ws (codes ws (row.drop i)) (row.drop i) = idx ws (codes ws row) row)
      ⟨0, none, none, rfl, s13, hl3, h3, by simp⟩ (fun i σ H' _ ⟨_, _, _, _, s', _⟩ => s'.seq hS) ?_ ?_⟩
    · rintro i y σ H' hy ⟨v, v7, v8, rfl, s', hl', hw', hv⟩
      obtain ⟨n, hn, rfl⟩ := nat_at hy
      have hnw := ok n (List.mem_of_getElem? hn)
      obtain ⟨x, hx⟩ : ∃ x, ws[n]? = some x := ⟨ws[n], List.getElem?_eq_getElem hnw⟩
      obtain ⟨x1, x8⟩ := gl x (List.mem_of_getElem? hx)
      have hlt : (codes ws (row.take i)).length + x.length ≤ z.length := by
        have e2 : codes ws row = codes ws (row.take (i + 1)) ++ codes ws (row.drop (i + 1)) := by
          unfold codes
          rw [← List.flatten_append, ← List.map_append, List.take_append_drop]
        have e3 := codes_snoc hn hx
        rw [hzl, hzc, e2, e3, List.length_append, List.length_append, len_list x]
        exact Nat.le_add_right _ _
      have edrop : z.cps.toList.drop (codes ws (row.take i)).length = codes ws (row.drop i) := by
        rw [hzc]
        exact codes_drop
      have etake : (codes ws (row.take (i + 1))).length = (codes ws (row.take i)).length + x.length := by
        rw [codes_snoc hn hx, List.length_append, len_list x]
      have erow : row.drop i = n :: row.drop (i + 1) := by
        obtain ⟨h1, h2⟩ := List.getElem?_eq_some_iff.mp hn
        rw [List.drop_eq_getElem_cons h1, h2]
      generalize hm : (codes ws (row.take i)).length = m at hlt edrop etake ⊢
      refine ⟨_, rfl, _, rfl, _, rfl, _, rfl, l, _, rfl, SqL.of hl', fun sl nsl => ?_⟩
      have ecut : cutV (ws.map V.str) none (some (n : Int)) = (ws.take n).map V.str := by
        unfold cutV
        rw [HT.sIx_nat, HT.sIx_none, List.drop_zero, Nat.sub_zero, List.map_take, ← List.take_eq_take_min]
      have ss := same_upd (o := .lst ((ws.take n).map V.str)) nsl
      rw [ecut]
      have hsl : (upd H' sl (.lst ((ws.take n).map V.str))) sl = some (.lst ((ws.take n).map V.str)) := upd_same
      have hw6 := ss _ _ hw'
      have hl6 := ss _ _ hl'
      have s06 := s'.trans ss
      generalize upd H' sl (.lst ((ws.take n).map V.str)) = H6 at ss hsl hw6 hl6 s06 ⊢
      refine ⟨sl, rfl, ⟨_, SqL.of hsl⟩, fun D hD => ?_⟩
      refine lc_fm walk_list (fun j => some (.int ((eOf ws (z.cps.toList.drop m) (ws.getD j ⟨#[]⟩) : Nat) : Int))) ?_ hD (fun H' s' => SqL.of (s' _ _ hsl)) ?_ ?_
      · rw [List.length_map, List.length_take]
        exact Nat.lt_of_le_of_lt (show min n ws.length ≤ 8 by have := g.hi; omega) (by decide)
      · rintro j y H7 H8 N hj s7 ⟨rfl, hy2⟩ hN
        obtain ⟨u, hu, rfl⟩ := map_at hy2
        have hun : ws[j]? = some u := by
          rw [List.getElem?_take] at hu
          split at hu
          · exact hu
          · cases hu
        have eu : ws.getD j ⟨#[]⟩ = u := by rw [List.getD_eq_getElem?_getD, hun]; rfl
        obtain ⟨u1, u8⟩ := gl u (List.mem_of_getElem? hun)
        have hN' := hN H8 (Same.refl _)
        rw [eu] at hN'
        have hmz : m < z.length := by omega
        refine ⟨rfl, yesT ?_⟩
        exact ⟨_, rfl, _, rfl, _, rfl, _, rfl, u, z, m, wy, _, rfl, SqL.of (s7 _ _ hw6), u1, by omega, by omega, by omega, _, (ways_eOf hmz).1, (ways_eOf hmz).2, hN'⟩
      · intro H7 s7 h7
        have ef : fmr (fun j => some (V.int ((eOf ws (z.cps.toList.drop m) (ws.getD j ⟨#[]⟩) : Nat) : Int))) ((ws.take n).map V.str).length =
            (((ws.take n).map (eOf ws (z.cps.toList.drop m))).map fun (k : Nat) => (k : Int)).map V.int := by
          rw [fmr_map, List.length_map]
          apply List.ext_getElem
          · simp
          · intro j h1 h2
            simp at h1 h2
            simp [h1, show j < ws.length by omega]
        rw [ef] at h7
        refine ⟨D, _, rfl, SqL.of h7, ?_⟩
        rw [sum_cast]
        refine ⟨_, _, rfl, rfl, ?_⟩
        refine ⟨_, rfl, _, rfl, _, rfl, l, _, _, _, rfl, rfl, SqL.of (s7 _ _ hl6), atI_nat (j := n) (by rw [List.getElem?_map, hx]; rfl), x, rfl, Nat.le_trans x8 (by decide), _, _, rfl, rfl, ?_⟩
        refine ⟨v + ((ws.take n).map (eOf ws (z.cps.toList.drop m))).sum, some (.int n), v8, ?_, s06.trans s7, s7 _ _ hl6, s7 _ _ hw6, ?_⟩
        · rw [etake]
          push_cast
          rfl
        · rw [erow] at hv
          have e1 : idx ws (codes ws (n :: row.drop (i + 1))) (n :: row.drop (i + 1)) = ((ws.take n).map (eOf ws (codes ws (n :: row.drop (i + 1))))).sum + idx ws ((codes ws (n :: row.drop (i + 1))).drop (ws.getD n ⟨#[]⟩).length) (row.drop (i + 1)) := rfl
          have eg : ws.getD n ⟨#[]⟩ = x := by rw [List.getD_eq_getElem?_getD, hx]; rfl
          have e2 : (codes ws (n :: row.drop (i + 1))).drop x.length = codes ws (row.drop (i + 1)) := by
            have e3 : codes ws (n :: row.drop (i + 1)) = x.cps.toList ++ codes ws (row.drop (i + 1)) := by
              unfold codes
              rw [List.map_cons, List.flatten_cons, eg]
            rw [e3, len_list x, List.drop_left]
          rw [e1, eg, e2] at hv
          rw [edrop, erow]
          omega
    · rintro σ H' ⟨v, v7, v8, rfl, s', hl', hw', hv⟩
      refine ⟨_, rfl, ?_⟩
      rw [List.length_map, List.length_map, List.drop_length] at hv
      have e : v = idx ws (codes ws row) row := by
        rw [← hv]
        rfl
      rw [e]
      exact q H' s'
end

end WH
namespace WH
open PySem PySem.Spec PyProof.Rows L2
/-! ### data that repr and == are asked of -/
structure Sm (d : PyData) (dp wt : Nat) : Prop where
  sh : d.showable = true
  nd : d.hasDict = false
  dp : d.depth ≤ dp
  ls : d.leavesShort 2000 = true
  wt : d.weight ≤ wt
  cl : d.canLay0 = true
structure SmA (ds : List PyData) (dp wt : Nat) : Prop where
  sh : PyData.showableAll ds = true
  nd : PyData.hasDictAll ds = false
  dp : PyData.depthAll ds ≤ dp
  ls : PyData.leavesShortAll 2000 ds = true
  wt : PyData.weightAll ds ≤ wt
  cl : PyData.canLayAll0 ds = true
theorem log_small {n : Int} {b : Nat} (h : n.natAbs < 2 ^ b) (hb : 0 < b) : n.natAbs.log2 < b := PySem.Flt.log2_lt_of hb h
theorem int_short {n : Int} (h : n.natAbs < 2 ^ 200) : PyData.leavesShort 2000 (.int n) = true := by
  have h1 := log_small h (by decide)
  simp only [PyData.leavesShort, PyData.shown]
  apply decide_eq_true
  have := int_text_length_le (a := n) (k := 200) (by decide) h1
  show (Str.ofString (toString n)).length ≤ 2000
  rw [PySem.ofString_length]
  omega
theorem Sm.int {n : Int} (h : n.natAbs < 2 ^ 200) : Sm (.int n) 0 200 := by
  have l := log_small h (by decide)
  refine ⟨?_, by simp [PyData.hasDict], by simp [PyData.depth], int_short h, ?_, by simp [PyData.canLay0]⟩
  · simp only [PyData.showable]
    exact decide_eq_true (by omega)
  · simp only [PyData.weight]
    split <;> omega
theorem Sm.bool (b : Bool) : Sm (.bool b) 0 0 := by
  refine ⟨by simp [PyData.showable], by simp [PyData.hasDict], by simp [PyData.depth], ?_, by simp [PyData.weight], by simp [PyData.canLay0]⟩
  cases b <;> decide +kernel
theorem Sm.str {x : Str} (h : PyData.strOk x = true) {m : Nat} (hm : x.length ≤ m) : Sm (.str x) 0 m :=
  ⟨by simp [PyData.showable], by simp [PyData.hasDict], by simp [PyData.depth], short_str h, by simp only [PyData.weight]; exact hm, by simp only [PyData.canLay0]; exact h⟩
theorem SmA.nil : SmA [] 0 0 := ⟨by simp [PyData.showableAll], by simp [PyData.hasDictAll], by simp [PyData.depthAll], by simp [PyData.leavesShortAll], by simp [PyData.weightAll], by simp [PyData.canLayAll0]⟩
theorem SmA.cons {d : PyData} {ds : List PyData} {dp wt w2 : Nat} (h : Sm d dp wt) (hs : SmA ds dp w2) : SmA (d :: ds) dp (wt + 1 + w2) := by
  obtain ⟨a1, a2, a3, a4, a5, a6⟩ := h
  obtain ⟨b1, b2, b3, b4, b5, b6⟩ := hs
  refine ⟨?_, ?_, ?_, ?_, ?_, ?_⟩
  · simp only [PyData.showableAll, a1, b1, Bool.and_self]
  · simp only [PyData.hasDictAll, a2, b2, Bool.or_self]
  · simp only [PyData.depthAll]
    omega
  · simp only [PyData.leavesShortAll, a4, b4, Bool.and_self]
  · simp only [PyData.weightAll]
    omega
  · simp only [PyData.canLayAll0, a6, b6, Bool.and_self]
theorem SmA.mono {ds : List PyData} {dp wt dp' wt' : Nat} (h : SmA ds dp wt) (h1 : dp ≤ dp') (h2 : wt ≤ wt') : SmA ds dp' wt' := ⟨h.sh, h.nd, Nat.le_trans h.dp h1, h.ls, Nat.le_trans h.wt h2, h.cl⟩
theorem Sm.mono {d : PyData} {dp wt dp' wt' : Nat} (h : Sm d dp wt) (h1 : dp ≤ dp') (h2 : wt ≤ wt') : Sm d dp' wt' := ⟨h.sh, h.nd, Nat.le_trans h.dp h1, h.ls, Nat.le_trans h.wt h2, h.cl⟩
theorem Sm.list {ds : List PyData} {dp wt : Nat} (h : SmA ds dp wt) : Sm (.list ds) (dp + 1) wt := by
  obtain ⟨b1, b2, b3, b4, b5, b6⟩ := h
  refine ⟨by simp only [PyData.showable, b1], by simp only [PyData.hasDict, b2], ?_, by simp only [PyData.leavesShort, b4], by simp only [PyData.weight]; exact b5, by simp only [PyData.canLay0, b6]⟩
  simp only [PyData.depth]
  omega
theorem SmA.all {ds : List PyData} {dp wt : Nat} (h : ∀ d ∈ ds, Sm d dp wt) : SmA ds dp ((wt + 1) * ds.length) := by
  induction ds with
  | nil => exact SmA.nil.mono (Nat.zero_le _) (Nat.zero_le _)
  | cons d ds ih =>
    refine (SmA.cons (h d List.mem_cons_self) (ih fun x hx => h x (List.mem_cons_of_mem _ hx))).mono (Nat.le_refl _) ?_
    rw [List.length_cons, Nat.mul_add]
    omega
theorem Sm.two {d : PyData} {dp wt : Nat} (h : Sm d dp wt) : Sm (.list [d, d]) (dp + 1) (2 * wt + 2) :=
  (Sm.list (SmA.cons h (SmA.cons h (SmA.nil.mono (Nat.zero_le dp) (Nat.le_refl 0))))).mono (Nat.le_refl _) (by omega)
/-- what repr asks of its argument -/
theorem Sm.repr {K : PySem.W.Frag} {H : Hp} {a : Addr} {d : PyData} {dp wt : Nat} (h : Sm d dp wt) (hd : dp ≤ 60) (hw : wt ≤ 8000) (hD : Dp K H (.ref a) d) : Dp K H (.ref a) d ∧ d.showable = true ∧ d.hasDict = false ∧ d.depth ≤ 60 ∧ d.shown.length ≤ sizeLine :=
  ⟨hD, h.sh, h.nd, Nat.le_trans h.dp hd, fits2 h.ls (Nat.le_trans h.wt hw)⟩
theorem Sm.shaped {d : PyData} {dp wt : Nat} (h : Sm d dp wt) (hd : dp ≤ 60) : SeqAt.shaped d = true := by
  unfold SeqAt.shaped
  rw [h.cl, decide_eq_true (show d.depth ≤ 64 from Nat.le_trans h.dp (by omega))]
  rfl
def dNats (row : List Nat) : List PyData := row.map fun (n : Nat) => PyData.int (n : Int)
def dRows (rows : List (List Nat)) : List PyData := rows.map fun r => PyData.list (dNats r)
theorem dpAll_nats {K : PySem.W.Frag} {H : Hp} : ∀ ns : List Nat, DpAll K H (ns.map natV) (dNats ns)
  | [] => .nil
  | n :: r => .cons (.int n) (dpAll_nats r)
theorem dp_nats {K : PySem.W.Frag} {H : Hp} {a : Addr} {ns : List Nat} (h : SqL K H a (ns.map natV)) : Dp K H (.ref a) (.list (dNats ns)) := .lst h (dpAll_nats ns)
theorem sm_nats {ns : List Nat} (h : ∀ n ∈ ns, n < 1000) : Sm (.list (dNats ns)) 1 (201 * ns.length) := by
  have := SmA.all (ds := dNats ns) (dp := 0) (wt := 200) fun d hd => by
    obtain ⟨n, hn, rfl⟩ := List.mem_map.mp hd
    refine Sm.int ?_
    have := h n hn
    exact Nat.lt_of_lt_of_le (show (n : Int).natAbs < 1000 by omega) (by decide)
  refine (Sm.list this).mono (Nat.le_refl _) ?_
  unfold dNats
  rw [List.length_map]
  exact Nat.le_refl _
theorem eqvAll_nats : ∀ a b : List Nat, PyData.eqvAll (dNats a) (dNats b) = decide (a = b)
  | [], [] => by simp [dNats, PyData.eqvAll]
  | [], _ :: _ => by simp [dNats, PyData.eqvAll]
  | _ :: _, [] => by simp [dNats, PyData.eqvAll]
  | x :: a, y :: b => by
    have ih := eqvAll_nats a b
    unfold dNats at ih ⊢
    rw [List.map_cons, List.map_cons]
    simp only [PyData.eqvAll, PyData.eqv, ih]
    by_cases h : x = y <;> by_cases h2 : a = b <;> simp [h, h2] <;> omega
theorem eqv_nats (a b : List Nat) : PyData.eqv (.list (dNats a)) (.list (dNats b)) = decide (a = b) := by
  simp only [PyData.eqv]
  exact eqvAll_nats a b
theorem dpAll_rows {K : PySem.W.Frag} {H : Hp} : ∀ (ls : List Addr) (rows : List (List Nat)), ls.length = rows.length → (∀ (j : Nat) (a : Addr) (row : List Nat), ls[j]? = some a → rows[j]? = some row → H a = some (.lst (row.map natV))) → DpAll K H (ls.map V.ref) (dRows rows)
  | [], [], _, _ => .nil
  | [], _ :: _, h, _ => by simp at h
  | _ :: _, [], h, _ => by simp at h
  | l :: ls, ws :: wss, h, q => .cons (dp_nats (SqL.of (q 0 l ws rfl rfl))) (dpAll_rows ls wss (by simpa using h) fun j l' ws' h1 h2 => q (j + 1) l' ws' (by simpa using h1) (by simpa using h2))
theorem dp_rows {K : PySem.W.Frag} {H : Hp} {l : Addr} {rows : List (List Nat)} (h : RowsAt H l rows) : Dp K H (.ref l) (.list (dRows rows)) := by
  obtain ⟨ls, h1, h2, h3⟩ := h
  exact .lst (SqL.of h1) (dpAll_rows ls rows h2 h3)
theorem sm_rows {rows : List (List Nat)} {m : Nat} (h : ∀ r ∈ rows, (∀ n ∈ r, n < 1000) ∧ r.length ≤ m) : Sm (.list (dRows rows)) 2 ((201 * m + 1) * rows.length) := by
  have := SmA.all (ds := dRows rows) (dp := 1) (wt := 201 * m) fun d hd => by
    obtain ⟨r, hr, rfl⟩ := List.mem_map.mp hd
    obtain ⟨h1, h2⟩ := h r hr
    exact (sm_nats h1).mono (Nat.le_refl _) (Nat.mul_le_mul_left _ h2)
  refine (Sm.list this).mono (Nat.le_refl _) ?_
  unfold dRows
  rw [List.length_map]
  exact Nat.le_refl _
theorem eqv_rows_nil (rows : List (List Nat)) : PyData.eqv (.list (dRows rows)) (.list []) = decide (rows = []) := by
  cases rows <;> simp [dRows, PyData.eqv, PyData.eqvAll]
theorem RowsAt.same {H H' : Hp} {l : Addr} {rows : List (List Nat)} (h : RowsAt H l rows) (s : Same H H') : RowsAt H' l rows := by
  obtain ⟨ls, h1, h2, h3⟩ := h
  exact ⟨ls, s _ _ h1, h2, fun j a row h4 h5 => s _ _ (h3 j a row h4 h5)⟩
/-- three keywords, the last one first -/
def gTurn3 {α : Type} : List α → List α → List α
  | [], [a, b, c] => [c, b, a]
  | _, _ => []
theorem gTurn3_rel {vs : List V} {us : List Value} {zs : List V} {ws : List Value} (h1 : Vals vs us) (h2 : Vals zs ws) : Vals (gTurn3 vs zs) (gTurn3 us ws) := by
  cases h1 with
  | nil =>
    cases h2 with
    | nil => exact .nil
    | cons a h2 =>
      cases h2 with
      | nil => exact .nil
      | cons b h2 =>
        cases h2 with
        | nil => exact .nil
        | cons c h2 =>
          cases h2 with
          | nil => exact .cons c (.cons b (.cons a .nil))
          | cons d h2 => exact .nil
  | cons a h1 =>
    exact .nil
theorem gTurn_three {α : Type} {us ws : List α} (h : (gTurn3 us ws).length = 3) : us = [] ∧ ∃ a b c, ws = [a, b, c] := by
  match us, ws, h with
  | [], [a, b, c], _ => exact ⟨rfl, a, b, c, rfl⟩
theorem StkAt.butL {C p m : Addr} {H H' : Hp} {ws : List Str} {xs : List V} (h : StkAt C H m ws) (hp : H p = some (.lst xs)) (s : SameBut p H H') : StkAt C H' m ws := by
  obtain ⟨dx, t, h1, h2⟩ := h
  exact ⟨dx, t, s _ _ (ne_of h1 hp (by intro z; cases z)) h1, s _ _ (ne_of h2 hp (by intro z; cases z)) h2⟩
theorem StkAt.but {C p m : Addr} {H H' : Hp} {ws : List Str} {n : Int} (h : StkAt C H m ws) (hp : PoolAt H p n) (s : SameBut p H H') : StkAt C H' m ws := by
  obtain ⟨_, _, _, e, _⟩ := hp
  exact h.butL e s
theorem mk_s0 {C x dx : Addr} {H : Hp} (nx : H x = none) (ndx : H dx = none) : Same H (upd (upd H dx (.own x)) x (.ins C dx [])) := same_set (same_upd ndx) nx
theorem mk_same {C x dx : Addr} {H H' : Hp} (nx : H x = none) (ndx : H dx = none) (kp : ∀ b o, (upd (upd H dx (.own x)) x (.ins C dx [])) b = some o → b ≠ x → H' b = some o) : Same H H' := fun b o e => kp b o (mk_s0 nx ndx b o e) (ne_of_none e nx)
theorem good_lot {ws : List Str} (h : LotOk ws 8) (h1 : 1 ≤ ws.length) (h8 : ws.length ≤ 8) : Good ws :=
  ⟨fun x hx => by
    obtain ⟨a, b, c⟩ := h.l x hx
    unfold isW
    rw [a, decide_eq_true b, decide_eq_true (show x.length ≤ 8 by omega)]
    rfl, h.nd, h1, h8⟩
theorem PoolAt.ne {H : Hp} {p q : Addr} {n : Int} (h : PoolAt H p n) (hq : H q = none) : p ≠ q := by
  obtain ⟨_, _, _, e, _⟩ := h
  exact ne_of_none e hq
theorem PoolAt.upd {H : Hp} {p q : Addr} {n : Int} {o : HO} (h : PoolAt H p n) (hq : p ≠ q) : PoolAt (upd H q o) p n := by
  obtain ⟨a, b, c, e, r⟩ := h
  exact ⟨a, b, c, by rw [upd_ne hq]; exact e, r⟩
theorem good_isL {ws : List Str} (g : Good ws) : ∀ x ∈ ws, isL x = true := fun x hx => by
  have := g.w x hx
  unfold isW at this
  simp only [Bool.and_eq_true] at this
  exact this.2
structure BuX (mg : Str → Option Value) : Prop extends Bu mg where
  repr : mg "repr" = none
theorem cut_take (xs : List V) (k : Nat) : cutV xs none (some (k : Int)) = xs.take k := by
  unfold cutV
  rw [HT.sIx_nat, HT.sIx_none, List.drop_zero, Nat.sub_zero, ← List.take_eq_take_min]
theorem rep2 (v : V) : (List.replicate (Int.toNat 2) [v]).flatten = [v, v] := rfl
theorem atI_last {xs : List V} {v : V} (h : xs[xs.length - 1]? = some v) : atI xs (-1) = some v := by
  have hl := (List.getElem?_eq_some_iff.mp h).1
  unfold atI ixN
  rw [if_neg (by decide), if_pos (by omega)]
  show xs[((xs.length : Int) + -1).toNat]? = some v
  rw [show ((xs.length : Int) + -1).toNat = xs.length - 1 by omega]
  exact h

/-- the classes by the names that the law uses -/
structure Kinds (mg : Str → Option Value) (cW cT cN cR o1 o2 o3 o4 o5 o6 : Addr) : Prop where
  gW : mg "WordError" = some (.ref cW)
  gT : mg "InvalidText" = some (.ref cT)
  gN : mg "InvalidNumber" = some (.ref cN)
  gR : mg "InvalidReading" = some (.ref cR)
  g1 : mg "InvalidWord" = some (.ref o1)
  g2 : mg "NotApart" = some (.ref o2)
  g3 : mg "NotOneWay" = some (.ref o3)
  g4 : mg "NothingToUndo" = some (.ref o4)
  g5 : mg "TooMany" = some (.ref o5)
  g6 : mg "Unreadable" = some (.ref o6)
  gV : mg "ValueError" = none
/-- a class of errors, as the law tells it -/
structure Tell (K : PySem.W.Frag) (cW cT cN cR o1 o2 o3 o4 o5 o6 D : Addr) (b1 b2 b3 : Bool) : Prop where
  ex : ExcC K D
  xf : XfC K D
  nv : PySem.W.findIn K (.ref D) "value" = some none
  exm : PySem.W.exmOne K (.ref D) (.ref cW) = some true
  od : PySem.W.kitAny K (.ref D) [.ref o1, .ref o2, .ref o3, .ref o4, .ref o5, .ref o6] = some false
  kV : PySem.W.kitOne K (.ref D) (.type "ValueError") = some true
  kT : PySem.W.kitOne K (.ref D) (.ref cT) = some b1
  kN : PySem.W.kitOne K (.ref D) (.ref cN) = some b2
  kR : PySem.W.kitOne K (.ref D) (.ref cR) = some b3
section
variable {P : Program} {w : World} {K : PySem.W.Frag} {mg : Str → Option Value} {base : Heap}
theorem scFlagged : FnScope ["e", "odd", "found"] ["e"] (defScope sFlagged) := ⟨rfl, rfl, rfl, by decide +kernel, rfl, by decide +kernel, by decide +kernel⟩
def spFlag (K : PySem.W.Frag) (cW cT cN cR o1 o2 o3 o4 o5 o6 : Addr) (a : Addr) (c : Value) (d : Option Addr) : Sp := fun vs H Q _ => vs = [.ref a] ∧ ∃ (D dd : Addr) (v : V) (b1 b2 b3 : Bool), c = .ref D ∧ d = some dd ∧ Tell K cW cT cN cR o1 o2 o3 o4 o5 o6 D b1 b2 b3 ∧ H dd = some (.xd [(("value" : Str), v)]) ∧
  ∀ l H', H l = none → Same H H' → H' l = some (.lst [.bl b1, .bl b2, .bl b3, .bl false, v]) → Q (.ref l) H'
theorem ok_flagged {f cW cT cN cR o1 o2 o3 o4 o5 o6 : Addr} {fd : FuncData} (F : Fun K "_law_flagged" "_law_flagged" sFlagged f fd) (T : Kinds mg cW cT cN cR o1 o2 o3 o4 o5 o6) (mi : mg "isinstance" = none) :
    FnP P w K mg base 1 f fd ["e"] (spFlag K cW cT cN cR o1 o2 o3 o4 o5 o6) := by
  refine WH.Fun.okP F scFlagged (fun a c d vs H Q E h => ?_) (fun cdv A outer s H vs Q E q c d got hr h => ?_)
  · obtain ⟨rfl, _⟩ := h
    rfl
  · obtain ⟨rfl, D, dd, v, b1, b2, b3, rfl, rfl, T', hd, want⟩ := h
    have mem : q ∈ [q] := List.mem_cons_self
    refine ⟨_, (pss_cons (ps_set (i := 1) scFlagged.nd rfl (Or.inl rfl) (pe_callB (show CallR _ _ (rIsXT K q.1 (.ref D) (some dd)) from call_isPT mem got) (by rfl) mi (by decide +kernel) (pa_cons (pv 0) (pa_cons (pe_tup (pa_cons (pe_glob (v := .ref o1) rfl T.g1 rfl) (pa_cons (pe_glob (v := .ref o2) rfl T.g2 rfl) (pa_cons (pe_glob (v := .ref o3) rfl T.g3 rfl) (pa_cons (pe_glob (v := .ref o4) rfl T.g4 rfl) (pa_cons (pe_glob (v := .ref o5) rfl T.g5 rfl) (pa_cons (pe_glob (v := .ref o6) rfl T.g6 rfl) pa_nil))))))) pa_nil))))
      (pss_cons (ps_set (i := 2) scFlagged.nd rfl (Or.inl rfl) (pe_lst (pa_cons (pe_callB (show CallR _ _ (rIsX K q.1 (.ref D) (some dd)) from call_isP mem got) (by rfl) mi (by decide +kernel) (pa_cons (pv 0) (pa_cons (pe_glob (v := .ref cT) rfl T.gT rfl) pa_nil))) (pa_cons (pe_callB (show CallR _ _ (rIsX K q.1 (.ref D) (some dd)) from call_isP mem got) (by rfl) mi (by decide +kernel) (pa_cons (pv 0) (pa_cons (pe_glob (v := .ref cN) rfl T.gN rfl) pa_nil))) (pa_cons (pe_callB (show CallR _ _ (rIsX K q.1 (.ref D) (some dd)) from call_isP mem got) (by rfl) mi (by decide +kernel) (pa_cons (pv 0) (pa_cons (pe_glob (v := .ref cR) rfl T.gR rfl) pa_nil))) pa_nil)))))
      (pss_one (ps_ret (pe_op op_cat (pv 2) (pe_lst (pa_cons (pe_or (pv 1) (pe_one (pe_not (pe_callB (show CallR _ _ (rIsX K q.1 (.ref D) (some dd)) from call_isP mem got) (by rfl) mi (by decide +kernel) (pa_cons (pv 0) (pa_cons (pe_bltn (v := .ty "ValueError") (by rfl) T.gV (by decide +kernel) rfl) pa_nil)))))) (pa_cons (pe_xp mem got (pv 0)) pa_nil)))))))), ?_⟩
    refine ⟨_, rfl, (by show 6 ≤ sizeLine; decide), fun tp ntp => ?_⟩
    have s1 := same_upd (o := .tup [.ref o1, .ref o2, .ref o3, .ref o4, .ref o5, .ref o6]) ntp
    have hd1 := s1 _ _ hd
    refine ⟨D, dd, tp, _, _, _, false, rfl, rfl, T'.ex, hd1, rfl, upd_same, .cons (.own o1) (.cons (.own o2) (.cons (.own o3) (.cons (.own o4) (.cons (.own o5) (.cons (.own o6) .nil))))), T'.od, ?_⟩
    refine ⟨_, rfl, D, dd, _, .ref cT, _, b1, rfl, rfl, T'.ex, hd1, rfl, .own cT, T'.kT, ?_⟩
    refine ⟨_, rfl, D, dd, _, .ref cN, _, b2, rfl, rfl, T'.ex, hd1, rfl, .own cN, T'.kN, ?_⟩
    refine ⟨_, rfl, D, dd, _, .ref cR, _, b3, rfl, rfl, T'.ex, hd1, rfl, .own cR, T'.kR, ?_⟩
    refine ⟨(by show 3 ≤ sizeLine; decide), fun fl nfl => ?_⟩
    have s2 := same_upd (o := .lst [.bl b1, .bl b2, .bl b3]) nfl
    have hd2 := s2 _ _ hd1
    refine ⟨_, rfl, _, rfl, false, rfl, iteF ?_⟩
    refine ⟨_, rfl, D, dd, _, .ty "ValueError", _, true, rfl, rfl, T'.ex, hd2, rfl, .ty "ValueError", T'.kV, true, rfl, ?_⟩
    refine ⟨_, rfl, D, dd, _, v, rfl, rfl, rfl, T'.xf, T'.nv, hd2, by simp [List.lookup], (by show 2 ≤ sizeLine; decide), fun l2 nl2 => ?_⟩
    have s3 := same_upd (o := .lst [.bl (!true), v]) nl2
    refine ⟨fl, l2, _, _, rfl, rfl, s3 _ _ upd_same, upd_same, (by show 3 + 2 ≤ sizeLine; decide), fun l nl => ?_⟩
    have s123 := (s1.trans s2).trans s3
    exact want l _ (s123.free nl) (s123.trans (same_upd nl)) upd_same
/-- what is caught: nothing, or the three flags and the value -/
abbrev Out := Option (Bool × Bool × Bool × V)
def TellQ (H : Hp) (Q : VK) (o : Out) : Prop := (o = none → ∀ H', Same H H' → Q .non H') ∧ ∀ b1 b2 b3 v, o = some (b1, b2, b3, v) → ∀ l H', H l = none → Same H H' → H' l = some (.lst [.bl b1, .bl b2, .bl b3, .bl false, v]) → Q (.ref l) H'
def outS (ws : List Str) (way s : Int) (z : Str) : Out := if isL z = false then some (true, false, false, .str z) else if way < 4 then none else if 0 ≤ s ∧ s < ((cnt ws z : Nat) : Int) then none else some (false, true, false, .int s)
def outR (ws : List Str) (ns : List Int) : Out := match ns.find? (fun n => !rowOk ws.length n) with | some n => some (false, false, true, .int n) | none => none
theorem caught_err {cW cT cN cR o1 o2 o3 o4 o5 o6 D : Addr} {b1 b2 b3 : Bool} {v : V} {x0 x1 x2 x3 x4 x5 : Option V} {H H1 : Hp} {Q : VK} {En : Ends} (TD : Tell K cW cT cN cR o1 o2 o3 o4 o5 o6 D b1 b2 b3) (s1 : Same H H1)
    (q : ∀ l H', H l = none → Same H H' → H' l = some (.lst [.bl b1, .bl b2, .bl b3, .bl false, v]) → Q (.ref l) H') (hD : ∀ (y : V) (σ' : Sl) (H' : Hp), σ'[4]? = some (some y) → Q y H' → En.nx σ' H') :
    ErrAt D v H1 (WE (wAs K (.ref cW) 5 (fun a cls d => tAsg (tCall (spFlag K cW cT cN cR o1 o2 o3 o4 o5 o6 a cls d) [] E0 (tCons (tVar 5) tNil)) (gName 4)) (fun _ _ _ _ => False) En) [x0, x1, x2, x3, x4, x5]) := by
  intro d H2 nd s2 hd
  refine ⟨true, TD.exm, fun _ a na => ⟨_, rfl, rfl, D, d, v, b1, b2, b3, rfl, rfl, TD, hd, fun l H3 nl s3 h3 => ?_⟩, fun z => nomatch z⟩
  have s12 := s1.trans s2
  exact hD (.ref l) _ H3 rfl (q l H3 (s12.free nl) (s12.trans s3) h3)
theorem scCaught : FnScope ["way", "made", "thing", "spot", "caught", "e"] ["way", "made", "thing", "spot"] (defScope sCaught) := ⟨rfl, rfl, rfl, by decide +kernel, rfl, by decide +kernel, by decide +kernel⟩
def spCaught (K : PySem.W.Frag) (C : Addr) : Sp := fun vs H Q _ => ∃ (way s : Int) (m : Addr) (ws : List Str), StkAt C H m ws ∧ Good ws ∧
  ((∃ z : Str, vs = [.int way, .ref m, .str z, .int s] ∧ 0 ≤ way ∧ way < 6 ∧ z.length ≤ 100000 ∧ TellQ H Q (outS ws way s z)) ∨
   (∃ (r : Addr) (ns : List Int), vs = [.int way, .ref m, .ref r, .int s] ∧ 6 ≤ way ∧ SqL K H r (ns.map V.int) ∧ ns.length ≤ 10000 ∧ TellQ H Q (outR ws ns)))
theorem ok_caught {f C cW cT cN cR o1 o2 o3 o4 o5 o6 fFL fCO fIT fNR fRI : Addr} {fd fdFL fdCO fdIT fdNR fdRI : FuncData} (F : Fun K "_law_caught" "_law_caught" sCaught f fd) (T : Kinds mg cW cT cN cR o1 o2 o3 o4 o5 o6)
    (TT : Tell K cW cT cN cR o1 o2 o3 o4 o5 o6 cT true false false) (TN : Tell K cW cT cN cR o1 o2 o3 o4 o5 o6 cN false true false) (TR : Tell K cW cT cN cR o1 o2 o3 o4 o5 o6 cR false false true)
    (FL : FnP P w K mg base 1 fFL fdFL ["e"] (spFlag K cW cT cN cR o1 o2 o3 o4 o5 o6)) (bFL : Binds K fdFL ["e"] []) (kFL : PySem.W.keepIn K (.ref fFL) = true) (gFL : mg "_law_flagged" = some (.ref fFL))
    (CO : CalX P w K mg base 4 "count_readings" ["stock", "text"] (spCountX C cT) fCO fdCO) (kbC : KBinds K fdCO ["stock", "text"] ["text", "stock"] gTurn gTurn)
    (IT : CalX P w K mg base 5 "is_text" ["stock", "text"] (spIsTextX C cT) fIT fdIT) (kbI : KBinds K fdIT ["stock", "text"] ["text", "stock"] gTurn gTurn)
    (NR : CalX P w K mg base 4 "nth_reading" ["stock", "text", "index"] (spNthX C cT cN) fNR fdNR) (kbN : KBinds K fdNR ["stock", "text", "index"] ["index", "text", "stock"] gTurn3 gTurn3)
    (RI : CalX P w K mg base 5 "reading_index" ["stock", "reading"] (spIndexX K C cR) fRI fdRI) (kbR : KBinds K fdRI ["stock", "reading"] ["reading", "stock"] gTurn gTurn) :
    FnOk P w K mg base CX0 6 f fd ["way", "made", "thing", "spot"] (spCaught K C) := by
  refine F.ok scCaught (fun vs H Q E h => ?_) (fun cdv A outer s H vs Q E hr h => ?_)
  · obtain ⟨way, s, m, ws, _, _, ⟨z, rfl, _⟩ | ⟨r, ns, rfl, _⟩⟩ := h <;> rfl
  · have hr5 : Room 5 _ := hr
    have hr4 : Room 4 _ := hr.mono (by decide)
    have hr1 : Room 1 _ := hr.mono (by decide)
    refine ⟨_, (pss_cons (ps_set (i := 4) scCaught.nd rfl (Or.inl rfl) pe_non)
      (pss_cons (ps_try_as (i := 5) (Wout := fun _ _ _ _ => False) rfl rfl scCaught.nd rfl rfl ⟨rfl, by decide, Or.inl T.gW⟩ takes0
      (fun W pn xe tk _ => (pss_one (ps_if (pt_cmpR op_eq (pv 0) pe_int (nomark _)) (pss_one (ps_expr (pe_callS CO.G hr4 (by rfl) CO.g CO.k CO.b (fun σ => passAt tk σ) (pa_cons (pv 1) (pa_cons (pv 2) pa_nil))))) (pss_one (ps_if (pt_cmpR op_eq (pv 0) pe_int (nomark _)) (pss_one (ps_expr (pe_callS IT.G hr5 (by rfl) IT.g IT.k IT.b (fun σ => passAt tk σ) (pa_cons (pv 1) (pa_cons (pv 2) pa_nil))))) (pss_one (ps_if (pt_cmpR op_eq (pv 0) pe_int (nomark _)) (pss_one (ps_expr (pe_callK0S (E := WE W) CO.G hr4 (by rfl) CO.g CO.k kbC (fun σ => passAt tk σ) (pk_cons (pv 2) (pk_cons (pv 1) pk_nil))))) (pss_one (ps_if (pt_cmpR op_eq (pv 0) pe_int (nomark _)) (pss_one (ps_expr (pe_callK0S (E := WE W) IT.G hr5 (by rfl) IT.g IT.k kbI (fun σ => passAt tk σ) (pk_cons (pv 2) (pk_cons (pv 1) pk_nil))))) (pss_one (ps_if (pt_cmpR op_eq (pv 0) pe_int (nomark _)) (pss_one (ps_expr (pe_callS NR.G hr4 (by rfl) NR.g NR.k NR.b (fun σ => passAt tk σ) (pa_cons (pv 1) (pa_cons (pv 2) (pa_cons (pv 3) pa_nil)))))) (pss_one (ps_if (pt_cmpR op_eq (pv 0) pe_int (nomark _)) (pss_one (ps_expr (pe_callK0S (E := WE W) NR.G hr4 (by rfl) NR.g NR.k kbN (fun σ => passAt tk σ) (pk_cons (pv 3) (pk_cons (pv 2) (pk_cons (pv 1) pk_nil)))))) (pss_one (ps_if (pt_cmpR op_eq (pv 0) pe_int (nomark _)) (pss_one (ps_expr (pe_callS RI.G hr5 (by rfl) RI.g RI.k RI.b (fun σ => passAt tk σ) (pa_cons (pv 1) (pa_cons (pv 2) pa_nil))))) (pss_one (ps_expr (pe_callK0S (E := WE W) RI.G hr5 (by rfl) RI.g RI.k kbR (fun σ => passAt tk σ) (pk_cons (pv 2) (pk_cons (pv 1) pk_nil))))))))))))))))))))
      (fun a oe cls d pn hz hf => pss_one (ps_set (i := 4) scCaught.nd rfl (Or.inl rfl) (pe_callP FL (ob := oe) List.mem_cons_self ⟨hz, hf⟩ (roomH_of hr1 _) (by rfl) gFL kFL bFL (pa_cons (pv 5) pa_nil)))))
      (pss_one (ps_ret (pv 4))))), ?_⟩
    obtain ⟨way, s, m, ws, st, g, ⟨z, rfl, w0, w6, hz, tq⟩ | ⟨r, ns, rfl, w6, hS, hl, tq⟩⟩ := h
    · have fT : isL z = false → outS ws way s z = some (true, false, false, .str z) := fun h => if_pos h
      have f4 : isL z = true → way < 4 → outS ws way s z = none := fun h hw => by
        unfold outS
        rw [if_neg (by rw [h]; decide), if_pos hw]
      have fI : isL z = true → ¬ way < 4 → 0 ≤ s ∧ s < ((cnt ws z : Nat) : Int) → outS ws way s z = none := fun h hw hs => by
        unfold outS
        rw [if_neg (by rw [h]; decide), if_neg hw, if_pos hs]
      have fN : isL z = true → ¬ way < 4 → ¬ (0 ≤ s ∧ s < ((cnt ws z : Nat) : Int)) → outS ws way s z = some (false, true, false, .int s) := fun h hw hs => by
        unfold outS
        rw [if_neg (by rw [h]; decide), if_neg hw, if_neg hs]
      have gl := good_len g
      have gw := fun x hx => (gl x hx).1
      by_cases c0 : way = 0
      · refine ⟨_, rfl, rfl, _, rfl, ?_⟩
        rw [decide_eq_true (congrArg V.int c0)]
        refine iteT ?_
        exact ⟨_, rfl, _, rfl, m, ws, z, rfl, st, g, hz, fun hL H1 s1 => caught_err TT s1 (tq.2 _ _ _ _ (fT hL)) (fun y σ' H' h4 hq => ⟨y, h4, hq⟩), fun hL H' s' => ⟨_, rfl, tq.1 (f4 hL (by omega)) H' s'⟩⟩
      by_cases c1 : way = 1
      · refine ⟨_, rfl, rfl, _, rfl, ?_⟩
        rw [decide_eq_false (fun h => c0 (V.int.inj h))]
        refine iteF ?_
        refine ⟨_, rfl, rfl, _, rfl, ?_⟩
        rw [decide_eq_true (congrArg V.int c1)]
        refine iteT ?_
        exact ⟨_, rfl, _, rfl, m, ws, z, rfl, st, g, hz, fun hL H1 s1 => caught_err TT s1 (tq.2 _ _ _ _ (fT hL)) (fun y σ' H' h4 hq => ⟨y, h4, hq⟩), fun hL H' s' => ⟨_, rfl, tq.1 (f4 hL (by omega)) H' s'⟩⟩
      by_cases c2 : way = 2
      · refine ⟨_, rfl, rfl, _, rfl, ?_⟩
        rw [decide_eq_false (fun h => c0 (V.int.inj h))]
        refine iteF ?_
        refine ⟨_, rfl, rfl, _, rfl, ?_⟩
        rw [decide_eq_false (fun h => c1 (V.int.inj h))]
        refine iteF ?_
        refine ⟨_, rfl, rfl, _, rfl, ?_⟩
        rw [decide_eq_true (congrArg V.int c2)]
        refine iteT ?_
        exact ⟨_, rfl, _, rfl, m, ws, z, rfl, st, g, hz, fun hL H1 s1 => caught_err TT s1 (tq.2 _ _ _ _ (fT hL)) (fun y σ' H' h4 hq => ⟨y, h4, hq⟩), fun hL H' s' => ⟨_, rfl, tq.1 (f4 hL (by omega)) H' s'⟩⟩
      by_cases c3 : way = 3
      · refine ⟨_, rfl, rfl, _, rfl, ?_⟩
        rw [decide_eq_false (fun h => c0 (V.int.inj h))]
        refine iteF ?_
        refine ⟨_, rfl, rfl, _, rfl, ?_⟩
        rw [decide_eq_false (fun h => c1 (V.int.inj h))]
        refine iteF ?_
        refine ⟨_, rfl, rfl, _, rfl, ?_⟩
        rw [decide_eq_false (fun h => c2 (V.int.inj h))]
        refine iteF ?_
        refine ⟨_, rfl, rfl, _, rfl, ?_⟩
        rw [decide_eq_true (congrArg V.int c3)]
        refine iteT ?_
        exact ⟨_, rfl, _, rfl, m, ws, z, rfl, st, g, hz, fun hL H1 s1 => caught_err TT s1 (tq.2 _ _ _ _ (fT hL)) (fun y σ' H' h4 hq => ⟨y, h4, hq⟩), fun hL H' s' => ⟨_, rfl, tq.1 (f4 hL (by omega)) H' s'⟩⟩
      by_cases c4 : way = 4
      · refine ⟨_, rfl, rfl, _, rfl, ?_⟩
        rw [decide_eq_false (fun h => c0 (V.int.inj h))]
        refine iteF ?_
        refine ⟨_, rfl, rfl, _, rfl, ?_⟩
        rw [decide_eq_false (fun h => c1 (V.int.inj h))]
        refine iteF ?_
        refine ⟨_, rfl, rfl, _, rfl, ?_⟩
        rw [decide_eq_false (fun h => c2 (V.int.inj h))]
        refine iteF ?_
        refine ⟨_, rfl, rfl, _, rfl, ?_⟩
        rw [decide_eq_false (fun h => c3 (V.int.inj h))]
        refine iteF ?_
        refine ⟨_, rfl, rfl, _, rfl, ?_⟩
        rw [decide_eq_true (congrArg V.int c4)]
        refine iteT ?_
        refine ⟨_, rfl, _, rfl, _, rfl, m, ws, z, s, rfl, st, g, hz, fun hL H1 s1 => caught_err TT s1 (tq.2 _ _ _ _ (fT hL)) (fun y σ' H' h4 hq => ⟨y, h4, hq⟩), fun hL hs H1 s1 => caught_err TN s1 (tq.2 _ _ _ _ (fN hL (by omega) hs)) (fun y σ' H' h4 hq => ⟨y, h4, hq⟩), fun hL k row hk hrow l H' nl s' hl => ⟨_, rfl, tq.1 (fI hL (by omega) ⟨by omega, ?_⟩) H' s'⟩⟩
        have := (List.getElem?_eq_some_iff.mp hrow).1
        rw [RD_len gw] at this
        have e : cnt ws z = (wl ws z.cps.toList).headD 0 := rfl
        omega
      by_cases c5 : way = 5
      · refine ⟨_, rfl, rfl, _, rfl, ?_⟩
        rw [decide_eq_false (fun h => c0 (V.int.inj h))]
        refine iteF ?_
        refine ⟨_, rfl, rfl, _, rfl, ?_⟩
        rw [decide_eq_false (fun h => c1 (V.int.inj h))]
        refine iteF ?_
        refine ⟨_, rfl, rfl, _, rfl, ?_⟩
        rw [decide_eq_false (fun h => c2 (V.int.inj h))]
        refine iteF ?_
        refine ⟨_, rfl, rfl, _, rfl, ?_⟩
        rw [decide_eq_false (fun h => c3 (V.int.inj h))]
        refine iteF ?_
        refine ⟨_, rfl, rfl, _, rfl, ?_⟩
        rw [decide_eq_false (fun h => c4 (V.int.inj h))]
        refine iteF ?_
        refine ⟨_, rfl, rfl, _, rfl, ?_⟩
        rw [decide_eq_true (congrArg V.int c5)]
        refine iteT ?_
        refine ⟨_, rfl, _, rfl, _, rfl, m, ws, z, s, rfl, st, g, hz, fun hL H1 s1 => caught_err TT s1 (tq.2 _ _ _ _ (fT hL)) (fun y σ' H' h4 hq => ⟨y, h4, hq⟩), fun hL hs H1 s1 => caught_err TN s1 (tq.2 _ _ _ _ (fN hL (by omega) hs)) (fun y σ' H' h4 hq => ⟨y, h4, hq⟩), fun hL k row hk hrow l H' nl s' hl => ⟨_, rfl, tq.1 (fI hL (by omega) ⟨by omega, ?_⟩) H' s'⟩⟩
        have := (List.getElem?_eq_some_iff.mp hrow).1
        rw [RD_len gw] at this
        have e : cnt ws z = (wl ws z.cps.toList).headD 0 := rfl
        omega
      exact absurd (show way = 5 by omega) c5
    · have fR : ∀ n, ns.find? (fun n => !rowOk ws.length n) = some n → outR ws ns = some (false, false, true, .int n) := fun n h => by
        unfold outR
        rw [h]
      have fO : ns.find? (fun n => !rowOk ws.length n) = none → outR ws ns = none := fun h => by
        unfold outR
        rw [h]
      have nat : ∀ row : List Nat, ns = row.map (fun (n : Nat) => (n : Int)) → (∀ i ∈ row, i < ws.length) → ns.find? (fun n => !rowOk ws.length n) = none := fun row h ok => find_no (by rw [h]; exact nat_ok ok)
      have c0 : ¬ way = 0 := by omega
      have c1 : ¬ way = 1 := by omega
      have c2 : ¬ way = 2 := by omega
      have c3 : ¬ way = 3 := by omega
      have c4 : ¬ way = 4 := by omega
      have c5 : ¬ way = 5 := by omega
      refine ⟨_, rfl, rfl, _, rfl, ?_⟩
      rw [decide_eq_false (fun h => c0 (V.int.inj h))]
      refine iteF ?_
      refine ⟨_, rfl, rfl, _, rfl, ?_⟩
      rw [decide_eq_false (fun h => c1 (V.int.inj h))]
      refine iteF ?_
      refine ⟨_, rfl, rfl, _, rfl, ?_⟩
      rw [decide_eq_false (fun h => c2 (V.int.inj h))]
      refine iteF ?_
      refine ⟨_, rfl, rfl, _, rfl, ?_⟩
      rw [decide_eq_false (fun h => c3 (V.int.inj h))]
      refine iteF ?_
      refine ⟨_, rfl, rfl, _, rfl, ?_⟩
      rw [decide_eq_false (fun h => c4 (V.int.inj h))]
      refine iteF ?_
      refine ⟨_, rfl, rfl, _, rfl, ?_⟩
      rw [decide_eq_false (fun h => c5 (V.int.inj h))]
      refine iteF ?_
      by_cases c6 : way = 6
      · refine ⟨_, rfl, rfl, _, rfl, ?_⟩
        rw [decide_eq_true (congrArg V.int c6)]
        refine iteT ?_
        exact ⟨_, rfl, _, rfl, m, r, ws, ns, rfl, st, g, hS, by omega, fun n hn H1 s1 => caught_err TR s1 (tq.2 _ _ _ _ (fR n hn)) (fun y σ' H' h4 hq => ⟨y, h4, hq⟩), fun row hrow ok H' s' => ⟨_, rfl, tq.1 (fO (nat row hrow ok)) H' s'⟩⟩
      · refine ⟨_, rfl, rfl, _, rfl, ?_⟩
        rw [decide_eq_false (fun h => c6 (V.int.inj h))]
        refine iteF ?_
        exact ⟨_, rfl, _, rfl, m, r, ws, ns, rfl, st, g, hS, by omega, fun n hn H1 s1 => caught_err TR s1 (tq.2 _ _ _ _ (fR n hn)) (fun y σ' H' h4 hq => ⟨y, h4, hq⟩), fun row hrow ok H' s' => ⟨_, rfl, tq.1 (fO (nat row hrow ok)) H' s'⟩⟩
end

end WH
namespace WH
open PySem PySem.Spec PyProof.Rows L2
section
variable {P : Program} {w : World} {K : PySem.W.Frag} {mg : Str → Option Value} {base : Heap}
theorem scRun : FnScope ["lot", "row", "spot"] ["lot", "row"] (defScope sRun) := ⟨rfl, rfl, rfl, by decide +kernel, rfl, by decide +kernel, by decide +kernel⟩
def spRun (K : PySem.W.Frag) : Sp := fun vs H Q _ => ∃ (l r : Addr) (ws : List Str) (ns : List Int), vs = [.ref l, .ref r] ∧ SqL K H l (ws.map V.str) ∧ SqL K H r (ns.map V.int) ∧ (∀ x ∈ ws, x.length ≤ 8) ∧ ns.length ≤ 100000 ∧ (∀ n ∈ ns, rowOk ws.length n = true) ∧ ∀ H', Same H H' → Q (.str (run ws ns)) H'
theorem ok_run {f : Addr} {fd : FuncData} {k : Nat} (F : Fun K "_law_run" "_law_run" sRun f fd) : FnOk P w K mg base CX0 (k + 1) f fd ["lot", "row"] (spRun K) := by
  refine F.ok scRun (fun vs H Q E h => ?_) (fun cdv A outer s H vs Q E hr h => ?_)
  · obtain ⟨l, r, ws, ns, rfl, _⟩ := h
    rfl
  · obtain ⟨l, r, ws, ns, rfl, hL, hS, h8, hl, okAll, q⟩ := h
    refine ⟨_, pss_one (ps_ret (pe_join pe_str (pe_lc (own := [("spot", 2)]) (g := gName 2) (tt := tYes) rfl scRun.nd (pi_list (pv 1)) (blkOk_by (N := ["lot", "row", "spot"]) (sc := defScope sRun) (by decide +kernel)) (fun _ _ _ _ _ => pg_name (i := 2) scRun.nd rfl (Or.inl rfl)) (fun _ _ _ _ _ => pts_nil)
        (fun _ _ _ _ _ => pe_ix (show IxR _ (rIxL K) from ix_list) (pv 0) (pv 2) (fun _ _ => rfl))))), ?_⟩
    refine ⟨⟨_, rfl⟩, _, rfl, r, rfl, ⟨_, hS⟩, fun D hD => ?_⟩
    refine lc_fm walk_list (fun i => some (.str (ws.getD (ns.getD i 0).toNat ⟨#[]⟩))) ?_ hD (fun H' s' => s'.seq hS) ?_ ?_
    · rw [List.length_map]
      exact Nat.lt_of_le_of_lt hl (by decide)
    · rintro i y H3 H4 N hi s3 ⟨rfl, hy⟩ hN
      obtain ⟨n, hn, rfl⟩ := int_at hy
      obtain ⟨x, hx, ex⟩ := row_at (okAll n (List.mem_of_getElem? hn))
      refine ⟨rfl, yesT ?_⟩
      refine ⟨_, rfl, _, rfl, l, _, _, _, rfl, rfl, s3.seq hL, hx, ?_⟩
      have e : ns.getD i 0 = n := by rw [List.getD_eq_getElem?_getD, hn]; rfl
      have hN' := hN H4 (Same.refl _)
      rw [e, ex] at hN'
      exact hN'
    · intro H3 s3 h3
      have ef : fmr (fun i => some (V.str (ws.getD (ns.getD i 0).toNat ⟨#[]⟩))) (ns.map V.int).length = (ns.map fun n => ws.getD n.toNat ⟨#[]⟩).map V.str := by
        rw [fmr_map, List.length_map]
        apply List.ext_getElem
        · simp
        · intro i h1 h2'
          simp at h1 h2'
          simp [h1]
      rw [ef] at h3
      refine ⟨_, D, _, rfl, rfl, .inl (SqL.of h3), ?_, ?_⟩
      · have h8 := run_len h8 ns
        show _ + _ * 0 ≤ 16777216
        omega
      · rw [join_cat (by rfl)]
        exact q H3 s3
end

/-- a comprehension whose elements are None or new lists -/
def IsOut (o : Option (List V)) (y : V) (H : Hp) : Prop := (o = none ∧ y = .non) ∨ ∃ c l, o = some c ∧ y = .ref l ∧ H l = some (.lst c)
theorem IsOut.same {o : Option (List V)} {y : V} {H H' : Hp} (h : IsOut o y H) (s : Same H H') : IsOut o y H' := h.elim .inl fun ⟨c, l, h1, h2, h3⟩ => .inr ⟨c, l, h1, h2, s _ _ h3⟩
theorem lc_out {J : It} {n : Nat} {G : Hp → Prop} {Y : Nat → Hp → V → Hp → Prop} (w : Walk J n G Y) {i0 : Nat} {te : TE} {vs : List Nat} {σ : Sl} {H1 : Hp} {D : Addr} {Qd : Hp → Prop}
    (o : Nat → Option (List V)) (hn : n < sizeLine) (hD : H1 D = none) (hG : ∀ H, Same H1 H → G H) (hw : ∀ x, wipe ((wipe σ vs).set i0 (some x)) vs = wipe σ vs)
    (hs : ∀ i x H H' (N : V → Hp → Prop), i < n → Same H1 H → Y i H x H' → (o i = none → ∀ H4, Same H H4 → N .non H4) → (∀ c, o i = some c → ∀ l H4, H l = none → Same H H4 → H4 l = some (.lst c) → N (.ref l) H4) → te ((wipe σ vs).set i0 (some x)) H' N)
    (hd : ∀ (ys : List V) H, Same H1 H → H D = some (.lst ys) → ys.length = n → (∀ (j : Nat) (y : V), ys[j]? = some y → IsOut (o j) y H) → Qd H) :
    ∃ W : Nat → Nat → Hp → Prop, (∃ m, W 0 m (upd H1 D (.lst []))) ∧ ∀ i m H, W i m H →
      (J.stop i H ∧ Qd H) ∨ (J.go i H ∧ ∃ Nx : Hp → Prop, (∀ H', Nx H' → ∃ m', m' < m ∧ W (i + 1) m' H') ∧ ∀ x H', J.yld i H x H' → gName i0 x (wipe σ vs) H' fun σ2 H2 => wipe σ2 vs = wipe σ vs ∧ tYes σ2 H2 fun b H3 =>
        if b = true then te σ2 H3 fun y H4 => ∃ acc, H4 D = some (.lst acc) ∧ acc.length < sizeLine ∧ Nx (upd H4 D (.lst (acc ++ [y]))) else Nx H3) := by
  refine lc_it w (fun i H => ∃ ys : List V, ys.length = i ∧ H D = some (.lst ys) ∧ (∀ (j : Nat) (y : V), ys[j]? = some y → y ≠ .ref D ∧ IsOut (o j) y H) ∧ Same H1 H) ⟨[], rfl, upd_same, fun j l h => by simp at h, same_upd hD⟩ (fun i H _ p => hG H p.choose_spec.2.2.2) ?_ ?_
  · rintro i x H H' hi ⟨ys, hl, h1, h2, s⟩ hy
    refine ⟨hw x, yesT ?_⟩
    have step : ∀ (y : V) (H4 : Hp), Same H H4 → y ≠ .ref D → IsOut (o i) y H4 → ∃ acc, H4 D = some (.lst acc) ∧ acc.length < sizeLine ∧ ∃ ys' : List V, ys'.length = i + 1 ∧ (upd H4 D (.lst (acc ++ [y]))) D = some (.lst ys') ∧ (∀ (j : Nat) (z : V), ys'[j]? = some z → z ≠ .ref D ∧ IsOut (o j) z (upd H4 D (.lst (acc ++ [y])))) ∧ Same H1 (upd H4 D (.lst (acc ++ [y]))) := by
      intro y H4 s4 nyD hy4
      have keep : ∀ (p : Option (List V)) (z : V), z ≠ .ref D → IsOut p z H4 → IsOut p z (upd H4 D (.lst (ys ++ [y]))) := fun p z nz hz => hz.elim .inl fun ⟨c, l, g1, g2, g3⟩ => .inr ⟨c, l, g1, g2, by rw [upd_ne (fun e => nz (by rw [g2, e]))]; exact g3⟩
      refine ⟨ys, s4 _ _ h1, by omega, ys ++ [y], by simp [hl], upd_same, fun j z hj => ?_, same_set (s.trans s4) hD⟩
      by_cases hji : j < ys.length
      · rw [List.getElem?_append_left hji] at hj
        obtain ⟨a1, a2⟩ := h2 j z hj
        exact ⟨a1, keep _ _ a1 (a2.same s4)⟩
      · have hj2 : j = ys.length := by
          have := (List.getElem?_eq_some_iff.mp hj).1
          rw [List.length_append] at this
          simp at this
          omega
        subst hj2
        rw [List.getElem?_append_right (Nat.le_refl _)] at hj
        simp at hj
        subst hj
        rw [hl]
        exact ⟨nyD, keep _ _ nyD hy4⟩
    refine hs i x H H' _ hi s hy (fun ho H4 s4 => step .non H4 s4 (fun z => nomatch z) (.inl ⟨ho, rfl⟩)) fun c ho l H4 nl s4 h4 => step (.ref l) H4 s4 (fun z => ?_) (.inr ⟨c, l, ho, rfl, h4⟩)
    have e : l = D := V.ref.inj z
    rw [e, h1] at nl
    cases nl
  · rintro H ⟨ys, hl, h1, h2, s⟩
    exact hd ys H s h1 hl fun j y h => (h2 j y h).2
/-! what is caught, as data -/
def oL : Out → Option (List V)
  | none => none
  | some (b1, b2, b3, v) => some [.bl b1, .bl b2, .bl b3, .bl false, v]
def dV : V → PyData
  | .int n => .int n
  | .str z => .str z
  | _ => .none
def dOut : Out → PyData
  | none => .none
  | some (b1, b2, b3, v) => .list [.bool b1, .bool b2, .bool b3, .bool false, dV v]
def scV : V → Prop
  | .int _ => True
  | .str _ => True
  | _ => False
theorem dp_scV {K : PySem.W.Frag} {H : Hp} {v : V} (h : scV v) : Dp K H v (dV v) := by
  cases v <;> first | exact .int _ | exact .str _ | exact h.elim
theorem dp_out {K : PySem.W.Frag} {H : Hp} {o : Out} {y : V} (h : IsOut (oL o) y H) (hv : ∀ b1 b2 b3 v, o = some (b1, b2, b3, v) → scV v) : Dp K H y (dOut o) := by
  cases o with
  | none =>
    rcases h with ⟨_, rfl⟩ | ⟨c, l, h1, _⟩
    · exact .non
    · cases h1
  | some p =>
    obtain ⟨b1, b2, b3, v⟩ := p
    rcases h with ⟨h1, _⟩ | ⟨c, l, h1, rfl, h3⟩
    · cases h1
    · have e := Option.some.inj h1
      subst e
      exact .lst (SqL.of h3) (.cons (.bl _) (.cons (.bl _) (.cons (.bl _) (.cons (.bl _) (.cons (dp_scV (hv _ _ _ _ rfl)) .nil)))))
theorem dpAll_out {K : PySem.W.Frag} {H : Hp} : ∀ (ys : List V) (os : List Out), ys.length = os.length → (∀ (j : Nat) (y : V) (o : Out), ys[j]? = some y → os[j]? = some o → Dp K H y (dOut o)) → DpAll K H ys (os.map dOut)
  | [], [], _, _ => .nil
  | [], _ :: _, h, _ => by simp at h
  | _ :: _, [], h, _ => by simp at h
  | y :: ys, o :: os, h, q => .cons (q 0 y o rfl rfl) (dpAll_out ys os (by simpa using h) fun j y' o' h1 h2 => q (j + 1) y' o' (by simpa using h1) (by simpa using h2))
theorem Sm.non : Sm .none 0 0 := ⟨by simp [PyData.showable], by simp [PyData.hasDict], by simp [PyData.depth], by decide +kernel, by simp [PyData.weight], by simp [PyData.canLay0]⟩
theorem sm_out {o : Out} {m : Nat} (hv : ∀ b1 b2 b3 v, o = some (b1, b2, b3, v) → Sm (dV v) 0 m) : Sm (dOut o) 1 (m + 5) := by
  cases o with
  | none => exact Sm.non.mono (by omega) (by omega)
  | some p =>
    obtain ⟨b1, b2, b3, v⟩ := p
    exact (Sm.list (SmA.cons (Sm.bool b1) (SmA.cons (Sm.bool b2) (SmA.cons (Sm.bool b3) (SmA.cons (Sm.bool false) (SmA.cons (hv _ _ _ _ rfl) SmA.nil)))))).mono (by omega) (by omega)
/-- an int of up to eighteen hundred bits -/
theorem Sm.big {n : Int} (h : n.natAbs < 2 ^ 1800) : Sm (.int n) 0 1800 := by
  have l := log_small h (by decide)
  refine ⟨?_, by simp [PyData.hasDict], by simp [PyData.depth], ?_, ?_, by simp [PyData.canLay0]⟩
  · simp only [PyData.showable]
    exact decide_eq_true (by omega)
  · simp only [PyData.leavesShort, PyData.shown]
    apply decide_eq_true
    have := int_text_length_le (a := n) (k := 1800) (by decide) l
    show (Str.ofString (toString n)).length ≤ 2000
    rw [PySem.ofString_length]
    omega
  · simp only [PyData.weight]
    split <;> omega
/-! readings of a row's text -/
theorem RD_mem {ws : List Str} (hw : ∀ x ∈ ws, 1 ≤ x.length) : ∀ row : List Nat, (∀ i ∈ row, i < ws.length) → row ∈ RD ws (codes ws row)
  | [], _ => List.mem_singleton.mpr rfl
  | b :: rest, h => by
    have hb := h b List.mem_cons_self
    obtain ⟨v, hv⟩ : ∃ v, ws[b]? = some v := ⟨ws[b], List.getElem?_eq_getElem hb⟩
    have v1 := hw v (List.mem_of_getElem? hv)
    have ih := RD_mem hw rest fun i hi => h i (List.mem_cons_of_mem _ hi)
    have eg : ws.getD b ⟨#[]⟩ = v := by rw [List.getD_eq_getElem?_getD, hv]; rfl
    have ec : codes ws (b :: rest) = v.cps.toList ++ codes ws rest := by
      unfold codes
      rw [List.map_cons, List.flatten_cons, eg]
    have hvl := len_list v
    have hne : codes ws (b :: rest) ≠ [] := by
      intro e
      have := congrArg List.length e
      rw [ec, List.length_append] at this
      simp only [List.length_nil] at this
      omega
    have hf : fit v (codes ws (b :: rest)) = true := by
      unfold fit
      rw [ec, hvl, List.take_left]
      simp
    rw [← blk_all hw hne]
    unfold blk
    rw [List.take_of_length_le (by simp)]
    refine List.mem_flatten.mpr ⟨_, List.mem_map.mpr ⟨(v, b), ?_, rfl⟩, ?_⟩
    · rw [List.mem_iff_getElem?]
      exact ⟨b, by simp [hv]⟩
    · rw [if_pos hf]
      refine List.mem_map.mpr ⟨rest, ?_, rfl⟩
      rw [ec, hvl, List.drop_left]
      exact ih
theorem cnt_pos {ws : List Str} (hw : ∀ x ∈ ws, 1 ≤ x.length) {row : List Nat} (h : ∀ i ∈ row, i < ws.length) {z : Str} (hz : z.cps.toList = codes ws row) : 0 < cnt ws z := by
  have m := RD_mem hw row h
  have e : cnt ws z = (RD ws (codes ws row)).length := by
    rw [RD_len hw]
    unfold cnt
    rw [hz]
  rw [e]
  exact List.length_pos_of_mem m
/-- a letter that no word has: no reading -/
theorem cnt_none {ws : List Str} (hw : ∀ x ∈ ws, 1 ≤ x.length) {z : Str} {c : Nat} (hc : c ∈ z.cps.toList) (hn : ∀ x ∈ ws, c ∉ x.cps.toList) : cnt ws z = 0 := by
  have e : cnt ws z = (RD ws z.cps.toList).length := (RD_len hw _).symm
  rw [e]
  cases h : RD ws z.cps.toList with
  | nil => rfl
  | cons r rs =>
    have h0 : (RD ws z.cps.toList)[0]? = some r := by rw [h]; rfl
    obtain ⟨h1, h2⟩ := RD_run hw _ _ (Nat.le_refl _) 0 r h0
    rw [← h2] at hc
    obtain ⟨l, hl, hcl⟩ := List.mem_flatten.mp hc
    obtain ⟨i, hi, rfl⟩ := List.mem_map.mp hl
    have hi' := h1 i hi
    have eg : ws.getD i ⟨#[]⟩ = ws[i] := by rw [List.getD_eq_getElem?_getD, List.getElem?_eq_getElem hi']; rfl
    rw [eg] at hcl
    exact absurd hcl (hn _ (List.getElem_mem hi'))
section
variable {X : Cx} {o e : Expr} {to te : TE} {apos pos : Pos}
/-- join, its K said (within a comprehension) -/
def tJn (K : PySem.W.Frag) (to te : TE) : TE := tM1 (fun x xs H Q => ∃ a p, ∃ ys : List Str, x = .str a ∧ xs = [.ref p] ∧ (SqL K H p (ys.map V.str) ∨ SqT K H p (ys.map V.str)) ∧ (ys.map (·.length)).sum + ys.length * a.length ≤ 16777216 ∧ Q (.str (Txt.join a ys)) H) to te
theorem pe_joinK {K : PySem.W.Frag} (hK : X.K = K) (ho : PE X o to) (he : PE X e te) (hs : starEach [e] X.env = [(false, eval e X.env)] := by rfl) (hbase : attributeBase o "join" X.env (eval o X.env) = eval o X.env := by rfl) (hline : (apos.endLine == pos.line) = true := by rfl) :
    PE X (.Call (.Attribute o "join" apos) [e] [] pos) (tJn K to te) := by
  subst hK
  exact pe_join ho he hs hbase hline
end
theorem call_lenK {X : Cx} {K : PySem.W.Frag} (hK : X.K = K) : CallR X (.builtin "len") (fun xs H Q => ∃ p ys, xs = [V.ref p] ∧ (SqL K H p ys ∨ SqT K H p ys) ∧ Q (V.int ys.length) H) := by
  subst hK
  exact call_len_seq
theorem run_isL {ws : List Str} (h : ∀ x ∈ ws, isL x = true) (ns : List Int) : isL (run ws ns) = true := by
  rw [isL_iff]
  intro c hc
  unfold run at hc
  rw [catS_list] at hc
  obtain ⟨l, hl, hc'⟩ := List.mem_flatten.mp hc
  obtain ⟨u, hu, rfl⟩ := List.mem_map.mp hl
  obtain ⟨n, hn, rfl⟩ := List.mem_map.mp hu
  rw [List.getD_eq_getElem?_getD] at hc'
  cases e : ws[n.toNat]? with
  | none =>
    rw [e] at hc'
    exact absurd hc' (by show c ∉ ([] : List Nat); simp)
  | some x =>
    rw [e] at hc'
    exact isL_iff.mp (h x (List.mem_of_getElem? e)) c hc'
theorem run_size {ws : List Str} {b : Nat} (hb : ∀ x ∈ ws, x.length ≤ b) (ns : List Int) : (run ws ns).length ≤ b * ns.length := by
  unfold run
  rw [catS_len]
  induction ns with
  | nil => simp
  | cons n r ih =>
    have h1 : (ws.getD n.toNat ⟨#[]⟩).length ≤ b := by
      rw [List.getD_eq_getElem?_getD]
      cases e : ws[n.toNat]? with
      | none => exact Nat.zero_le _
      | some x => exact hb x (List.mem_of_getElem? e)
    simp only [List.map_cons, List.sum_cons, List.length_cons]
    rw [Nat.mul_add]
    omega
theorem at_ints {ks : List Int} {e : Int} (h0 : 0 ≤ e) (h : e < (ks.length : Int)) : ∃ k, atI (ks.map V.int) e = some (.int k) ∧ k ∈ ks := by
  have hl : e.toNat < ks.length := by omega
  refine ⟨ks[e.toNat], ?_, List.getElem_mem hl⟩
  have e1 : (e.toNat : Int) = e := by omega
  have := atI_nat (xs := ks.map V.int) (j := e.toNat) (v := .int ks[e.toNat]) (by simp [hl])
  rwa [e1] at this
theorem tellQ_of {H : Hp} {Q : VK} {o : Out} (h0 : oL o = none → ∀ H', Same H H' → Q .non H') (h1 : ∀ c, oL o = some c → ∀ l H', H l = none → Same H H' → H' l = some (.lst c) → Q (.ref l) H') : TellQ H Q o :=
  ⟨fun e => h0 (by rw [e]; rfl), fun b1 b2 b3 v e => h1 _ (by rw [e]; rfl)⟩
theorem dp_outs {K : PySem.W.Frag} {H : Hp} {D : Addr} {ys : List V} {n : Nat} {f : Nat → Out} (h : H D = some (.lst ys)) (hlen : ys.length = n) (hys : ∀ (j : Nat) (y : V), ys[j]? = some y → IsOut (oL (f j)) y H) (hv : ∀ (j : Nat) b1 b2 b3 v, f j = some (b1, b2, b3, v) → scV v) :
    Dp K H (.ref D) (.list (((List.range n).map f).map dOut)) := by
  refine .lst (SqL.of h) (dpAll_out ys _ (by rw [List.length_map, List.length_range, hlen]) fun j y o h1 h2 => ?_)
  have hj : j < n := by
    have := (List.getElem?_eq_some_iff.mp h1).1
    omega
  rw [List.getElem?_map, List.getElem?_range hj] at h2
  have e : f j = o := Option.some.inj h2
  subst e
  exact dp_out (hys j y h1) (hv j)
theorem outS_sc {ws : List Str} {way s : Int} {z : Str} {b1 b2 b3 : Bool} {v : V} (h : outS ws way s z = some (b1, b2, b3, v)) : scV v := by
  unfold outS at h
  split at h
  · cases h
    trivial
  · split at h
    · cases h
    · split at h
      · cases h
      · cases h
        trivial
theorem outR_sc {ws : List Str} {ns : List Int} {b1 b2 b3 : Bool} {v : V} (h : outR ws ns = some (b1, b2, b3, v)) : scV v := by
  unfold outR at h
  split at h
  · cases h
    trivial
  · cases h
def sgn7 : List Str := ["A", " ", "1", "-", "\n", "~", "."]
theorem sgn7_ok : ∀ s ∈ sgn7, s.length = 1 ∧ isL s = false ∧ PyData.strOk s = true := by decide +kernel
theorem isL_bent {a b c : Str} (h : isL b = false) : isL (a ++ b ++ c) = false := by
  cases e : isL (a ++ b ++ c) with
  | false => rfl
  | true =>
    have h2 : isL b = true := by
      rw [isL_iff] at e ⊢
      intro x hx
      refine e x ?_
      rw [Str.cps_append, Array.toList_append, Str.cps_append, Array.toList_append]
      exact List.mem_append_left _ (List.mem_append_right _ hx)
    rw [h] at h2
    cases h2
theorem strOk_app {a b : Str} (h1 : PyData.strOk a = true) (h2 : PyData.strOk b = true) : PyData.strOk (a ++ b) = true := by
  unfold PyData.strOk at h1 h2 ⊢
  rw [← Array.all_toList, List.all_eq_true] at h1 h2 ⊢
  intro x hx
  rw [Str.cps_append, Array.toList_append] at hx
  exact (List.mem_append.mp hx).elim (h1 x) (h2 x)
theorem rep6 (v : V) : (List.replicate (Int.toNat 6) [v]).flatten = [v, v, v, v, v, v] := rfl
theorem rep4 (v : V) : (List.replicate (Int.toNat 4) [v]).flatten = [v, v, v, v] := rfl
def FAR : Int := 10 ^ 192
theorem far_facts : 10000 < FAR ∧ FAR < 2 ^ 700 := by decide +kernel
theorem far1 : CMulW ((10 : Int) ^ (64 : Int).toNat) ((10 : Int) ^ (64 : Int).toNat) := by
  unfold CMulW
  decide +kernel
theorem far2 : CMulW ((10 : Int) ^ (64 : Int).toNat * (10 : Int) ^ (64 : Int).toNat) ((10 : Int) ^ (64 : Int).toNat) := by
  unfold CMulW
  decide +kernel
theorem farE : (10 : Int) ^ (64 : Int).toNat * (10 : Int) ^ (64 : Int).toNat * (10 : Int) ^ (64 : Int).toNat = FAR := by decide +kernel
theorem spots_no {c : Nat} {s : Int} (hc : 0 < c) (hs : s ∈ [(c : Int), -1, (c : Int) + 5, FAR, 0 - FAR]) (h2 : c ≤ 4096) : ¬ (0 ≤ s ∧ s < (c : Int)) ∧ s.natAbs < 2 ^ 700 := by
  obtain ⟨f1, f2⟩ := far_facts
  generalize FAR = far at hs f1 f2
  simp only [List.mem_cons, List.not_mem_nil, or_false] at hs
  have e : (10000 : Nat) < 2 ^ 700 := by decide +kernel
  have e2 : ((2 ^ 700 : Nat) : Int) = (2 : Int) ^ 700 := by simp
  refine ⟨by omega, ?_⟩
  rw [← e2] at f2
  generalize (2 ^ 700 : Nat) = T at *
  omega

end WH
namespace WH
open PySem PySem.Spec PyProof.Rows L2
theorem sum_len_le {ws : List Str} {b : Nat} (h : ∀ x ∈ ws, x.length ≤ b) : (ws.map fun x => x.length).sum ≤ b * ws.length := by
  induction ws with
  | nil => simp
  | cons x r ih =>
    have h1 := h x List.mem_cons_self
    have h2 := ih fun y hy => h y (List.mem_cons_of_mem _ hy)
    simp only [List.map_cons, List.sum_cons, List.length_cons]
    rw [Nat.mul_add]
    omega
/-- the letters that a text has not -/
def odd1 (J : Str) (i : Nat) : Option Str := if LET.cps.getD i 0 ∈ J.cps.toList then none else some ⟨#[LET.cps.getD i 0]⟩
def odds (J : Str) (n : Nat) : List Str := (List.range n).filterMap (odd1 J)
theorem odds_fmr (J : Str) (n : Nat) : fmr (fun i => (odd1 J i).map V.str) n = (odds J n).map V.str := by
  unfold fmr odds
  rw [List.map_filterMap]
theorem odds_len (J : Str) (n : Nat) : (odds J n).length ≤ n := by
  unfold odds
  exact Nat.le_trans (List.length_filterMap_le _ _) (by rw [List.length_range]; exact Nat.le_refl _)
theorem odds_mem {J : Str} {n : Nat} {x : Str} (h : x ∈ odds J n) : ∃ i, i < n ∧ LET.cps.getD i 0 ∉ J.cps.toList ∧ x = ⟨#[LET.cps.getD i 0]⟩ := by
  unfold odds at h
  obtain ⟨i, hi, e⟩ := List.mem_filterMap.mp h
  unfold odd1 at e
  split at e
  · cases e
  · rename_i h'
    exact ⟨i, List.mem_range.mp hi, h', (Option.some.inj e).symm⟩
def strange (J : Str) : Str := cutS (catS (odds J 26)) none (some 1)
theorem let_mem : ∀ i : Nat, i < 26 → LET.cps.getD i 0 ∈ LET.cps.toList := by decide +kernel
theorem odds_one {J : Str} {n : Nat} : ∀ x ∈ odds J n, x.length ≤ 1 := fun x hx => by
  obtain ⟨i, _, _, rfl⟩ := odds_mem hx
  exact Nat.le_refl _
theorem odds_sum (J : Str) : ((odds J 26).map fun x => x.length).sum ≤ 26 := by
  have := sum_len_le (odds_one (J := J) (n := 26))
  have := odds_len J 26
  omega
theorem odds_cat (J : Str) : (catS (odds J 26)).length ≤ 26 := by
  rw [catS_len]
  exact odds_sum J
theorem strange_mem {J : Str} {c : Nat} (h : c ∈ (strange J).cps.toList) : c ∈ LET.cps.toList ∧ c ∉ J.cps.toList := by
  unfold strange at h
  rw [cut_hi _ (by decide)] at h
  have h' := List.mem_of_mem_take h
  rw [catS_list] at h'
  obtain ⟨l, hl, hc⟩ := List.mem_flatten.mp h'
  obtain ⟨u, hu, rfl⟩ := List.mem_map.mp hl
  obtain ⟨i, hi, h1, rfl⟩ := odds_mem hu
  have e : c = LET.cps.getD i 0 := by simpa using hc
  rw [e]
  exact ⟨let_mem i hi, h1⟩
theorem strange_isL (J : Str) : isL (strange J) = true := isL_iff.mpr fun c hc => (strange_mem hc).1
theorem strange_len (J : Str) : (strange J).length ≤ 1 := by
  unfold strange
  rw [len_hi (by decide)]
  exact Nat.min_le_left _ _
theorem strange_some {J : Str} (h : strange J ≠ "") : ∃ c, c ∈ (strange J).cps.toList := by
  cases e : (strange J).cps.toList with
  | nil =>
    refine absurd ?_ h
    generalize strange J = s at e
    cases s
    rename_i a
    have : a = #[] := by simpa using e
    subst this
    rfl
  | cons c r => exact ⟨c, List.mem_cons_self⟩
theorem strange_cnt {ws : List Str} (hw : ∀ x ∈ ws, 1 ≤ x.length) {z : Str} (h : strange (Txt.join "" ws) ≠ "") : cnt ws (z ++ strange (Txt.join "" ws)) = 0 := by
  obtain ⟨c, hc⟩ := strange_some h
  have h2 := (strange_mem hc).2
  have ej : Txt.join "" ws = catS ws := join_cat rfl ws
  rw [ej] at h2 hc ⊢
  refine cnt_none hw (c := c) ?_ fun x hx hcx => h2 ?_
  · rw [Str.cps_append, Array.toList_append]
    exact List.mem_append_right _ hc
  · rw [catS_list]
    exact List.mem_flatten.mpr ⟨_, List.mem_map.mpr ⟨x, hx, rfl⟩, hcx⟩
def BADS (c : Nat) : List Int := [(c : Int), -1, 10 ^ (30 : Int).toNat]
theorem bads_no {c : Nat} {b : Int} (hb : b ∈ BADS c) (hc : c ≤ 8) : rowOk c b = false ∧ b.natAbs < 2 ^ 200 := by
  have e : (10 : Int) ^ (30 : Int).toNat = 1000000000000000000000000000000 := by decide +kernel
  have e2 : (2 : Nat) ^ 200 = 1606938044258990275541962092341162602522202993782792835301376 := by decide +kernel
  unfold BADS at hb
  rw [e] at hb
  rw [e2]
  simp only [List.mem_cons, List.not_mem_nil, or_false] at hb
  refine ⟨?_, by omega⟩
  unfold rowOk
  by_cases h0 : 0 ≤ b
  · rw [decide_eq_true h0, decide_eq_false (by omega)]
    rfl
  · rw [decide_eq_false h0]
    rfl
theorem outR_ok {ws : List Str} {ns : List Int} (h : ∀ x ∈ ns, rowOk ws.length x = true) : outR ws ns = none := by
  unfold outR
  have : ns.find? (fun n => !rowOk ws.length n) = none := by
    rw [List.find?_eq_none]
    intro x hx
    rw [h x hx]
    decide
  rw [this]
theorem outR_app {ws : List Str} {ns ms : List Int} {b : Int} (h : ∀ x ∈ ns, rowOk ws.length x = true) (hb : rowOk ws.length b = false) : outR ws (ns ++ b :: ms) = some (false, false, true, .int b) := by
  unfold outR
  have : (ns ++ b :: ms).find? (fun n => !rowOk ws.length n) = some b := by
    rw [List.find?_append]
    have : ns.find? (fun n => !rowOk ws.length n) = none := by
      rw [List.find?_eq_none]
      intro x hx
      rw [h x hx]
      decide
    rw [this]
    simp [List.find?, hb]
  rw [this]
theorem outS_none {ws : List Str} {z : Str} {way s : Int} (h : isL z = true) (hw : ¬ way < 4) (hs : ¬ (0 ≤ s ∧ s < ((cnt ws z : Nat) : Int))) : outS ws way s z = some (false, true, false, .int s) := by
  unfold outS
  rw [if_neg (by rw [h]; decide), if_neg hw, if_neg hs]
theorem IsOut.set {o : Out} {y : V} {H H' : Hp} {T : Addr} {ys zs : List V} (h : IsOut (oL o) y H) (s : ∀ b x, b ≠ T → H b = some x → H' b = some x) (hT : H T = some (.lst ys)) (hl : ys.length ≠ 5) : IsOut (oL o) y (upd H' T (.lst zs)) := by
  rcases h with h | ⟨c, l, h1, h2, h3⟩
  · exact .inl h
  · have n5 : c.length = 5 := by
      cases o with
      | none => cases h1
      | some p =>
        obtain ⟨b1, b2, b3, v⟩ := p
        cases h1
        rfl
    have nl : l ≠ T := by
      intro e
      subst e
      rw [hT] at h3
      cases h3
      exact hl n5
    exact .inr ⟨c, l, h1, h2, by rw [upd_ne nl]; exact s _ _ nl h3⟩
theorem StkAt.same_but {C m T : Addr} {H H' : Hp} {ws : List Str} (h : StkAt C H m ws) (s : SameBut T H H') (hT : H T = none) : StkAt C H' m ws := h.same fun b o e => s b o (ne_of_none e hT) e
theorem PoolAt.but {p T : Addr} {H H' : Hp} {n : Int} (h : PoolAt H p n) (hn : p ≠ T) (s : SameBut T H H') : PoolAt H' p n := by
  obtain ⟨p0, p1, p2, e, r⟩ := h
  exact ⟨p0, p1, p2, s _ _ hn e, r⟩
end WH
namespace WH
open PySem PySem.Spec PyProof.Rows L2
section
variable {P : Program} {w : World} {K : PySem.W.Frag} {mg : Str → Option Value} {base : Heap}
theorem scFits : FnScope ["pool", "lot", "made", "row", "line", "many", "signs", "sign", "cut", "bent", "far", "spot", "due", "strange", "bad", "rows", "told", "some", "turn", "way", "letter"] ["pool"] (defScope sFits) := ⟨rfl, rfl, rfl, by decide +kernel, rfl, by decide +kernel, by decide +kernel⟩
def spFits : Sp := fun vs H Q _ => ∃ (p : Addr) (n : Int), vs = [.ref p] ∧ PoolAt H p n ∧ n < 700000 ∧ ∀ H', PoolAt H' p (n + 1000) → SameBut p H H' → Q (.bl true) H'
theorem ok_fits {f C fi fe fw fD fL fR fA fCA : Addr} {fd fdi fdD fdL fdR fdA fdCA : FuncData} (F : Fun K "_law_fits" "_law_fits" sFits f fd) (B : BuX mg) (T : StkC K mg C fi fe fw)
    (Gi : FnOk P w K mg base CX0 4 fi fdi ["self", "words"] (spSInit K C)) (bi : Binds K fdi ["self", "words"] [])
    (D : Cal P w K mg base 1 "_law_draw" ["pool", "span"] spDraw fD fdD) (L : Cal P w K mg base 3 "_law_lot" ["pool", "many", "widest"] spLot fL fdL) (RN : Cal P w K mg base 1 "_law_run" ["lot", "row"] (spRun K) fR fdR)
    (AL : Cal P w K mg base 13 "_law_all_readings" ["lot", "line"] (spAll K 12) fA fdA) (CA : Cal P w K mg base 6 "_law_caught" ["way", "made", "thing", "spot"] (spCaught K C) fCA fdCA) :
    FnG P w K mg base CX0 14 f fd ["pool"] spFits := by
  refine WH.Fun.okG F scFits (fun vs H Q E h => ?_) (fun cdv A outer s H vs Q E hr hG h => ?_)
  · obtain ⟨p, n, rfl, _⟩ := h
    rfl
  · obtain ⟨p, n, rfl, hp, hn, q⟩ := h
    have hr1 : Room 1 _ := hr.mono (by decide)
    have hr3 : Room 3 _ := hr.mono (by decide)
    have hr5 : Room 5 _ := hr.mono (by decide)
    have hr6 : Room 6 _ := hr.mono (by decide)
    have hr13 : Room 13 _ := hr
    refine ⟨_, (pss_cons (ps_set (i := 1) scFits.nd rfl (Or.inr rfl) (pe_call L.G hr3 (by rfl) L.g L.k L.b .nil pass0 (pa_cons (pv 0) (pa_cons pe_int (pa_cons pe_int pa_nil)))))
      (pss_cons (ps_asg (pe_tup (pa_cons (pe_make T.made Gi hr5 (by rfl) T.mgC bi .nil pass0 (pa_cons (pv 1) pa_nil)) (pa_cons (pe_lc (own := [("turn", 18)]) (g := gName 18) (tt := tYes) rfl scFits.nd (pi_range1 (by rfl) B.range (pa_cons (pe_call D.G hr1 (by rfl) D.g D.k D.b .nil pass0 (pa_cons (pv 0) (pa_cons pe_int pa_nil))) pa_nil)) (blkOk_by (N := ["pool", "lot", "made", "row", "line", "many", "signs", "sign", "cut", "bent", "far", "spot", "due", "strange", "bad", "rows", "told", "some", "turn", "way", "letter"]) (sc := defScope sFits) (by decide +kernel)) (fun _ _ _ _ _ => pg_name (i := 18) scFits.nd rfl (Or.inl rfl)) (fun _ _ _ _ _ => pts_nil) (fun _ _ _ _ _ => (pe_call D.G hr1 (by rfl) D.g D.k D.b .nil pass0 (pa_cons (pv 0) (pa_cons (pe_callB (call_lenK (K := K) rfl) (by rfl) B.len PySem.boot_len (pa_cons (pv 1) pa_nil)) pa_nil))))) pa_nil))) (pg_tup rfl (pgs_cons (pg_name (i := 2) scFits.nd rfl (Or.inr rfl)) (pgs_cons (pg_name (i := 3) scFits.nd rfl (Or.inl rfl)) pgs_nil))))
      (pss_cons (ps_set (i := 4) scFits.nd rfl (Or.inr rfl) (pe_call RN.G hr1 (by rfl) RN.g RN.k RN.b .nil pass0 (pa_cons (pv 1) (pa_cons (pv 3) pa_nil))))
      (pss_cons (ps_set (i := 5) scFits.nd rfl (Or.inr rfl) (pe_callB call_len_seq (by rfl) B.len PySem.boot_len (pa_cons (pe_call AL.G hr13 (by rfl) AL.g AL.k AL.b .nil pass0 (pa_cons (pv 1) (pa_cons (pv 4) pa_nil))) pa_nil)))
      (pss_cons (ps_set (i := 6) scFits.nd rfl (Or.inl rfl) (pe_lst (pa_cons pe_str (pa_cons pe_str (pa_cons pe_str (pa_cons pe_str (pa_cons pe_str (pa_cons pe_str (pa_cons pe_str pa_nil)))))))))
      (pss_cons (ps_par (i := 7) (j := 8) (by rfl) scFits.nd rfl rfl (by decide) rfl rfl (pa_cons (pe_ix ix_list (pv 6) (pe_call D.G hr1 (by rfl) D.g D.k D.b .nil pass0 (pa_cons (pv 0) (pa_cons pe_int pa_nil))) (fun _ _ => rfl)) (pa_cons (pe_call D.G hr1 (by rfl) D.g D.k D.b .nil pass0 (pa_cons (pv 0) (pa_cons (pe_op op_add (pe_callB call_len_str (by rfl) B.len (by decide +kernel) (pa_cons (pv 4) pa_nil)) pe_int) pa_nil))) pa_nil)) (by rfl))
      (pss_cons (ps_set (i := 9) scFits.nd rfl (Or.inr rfl) (pe_op op_add_str (pe_op op_add_str (pe_slice sl_str (pv 4) po_none (po_some (pv 8))) (pv 7)) (pe_slice sl_str (pv 4) (po_some (pv 8)) po_none)))
      (pss_cons (ps_set (i := 10) scFits.nd rfl (Or.inl rfl) (pe_op op_mulW (pe_op op_mulW (pe_op op_pow pe_int pe_int) (pe_op op_pow pe_int pe_int)) (pe_op op_pow pe_int pe_int)))
      (pss_cons (ps_set (i := 11) scFits.nd rfl (Or.inr rfl) (pe_ix ix_list (pe_lst (pa_cons (pv 5) (pa_cons (pe_un un_neg pe_int) (pa_cons (pe_op op_add (pv 5) pe_int) (pa_cons (pv 10) (pa_cons (pe_op op_sub pe_int (pv 10)) pa_nil)))))) (pe_call D.G hr1 (by rfl) D.g D.k D.b .nil pass0 (pa_cons (pv 0) (pa_cons pe_int pa_nil))) (fun _ _ => rfl)))
      (pss_cons (ps_set (i := 12) scFits.nd rfl (Or.inl rfl) (pe_lst (pa_cons pe_bl (pa_cons pe_bl (pa_cons pe_bl (pa_cons pe_bl (pa_cons (pv 9) pa_nil)))))))
      (pss_cons (ps_if (pt_cmpR op_ne (pe_callB (call_repr hG hr.units) (by rfl) B.repr (by decide +kernel) (pa_cons (pe_lc (own := [("way", 19)]) (g := gName 19) (tt := tYes) rfl scFits.nd (pi_range1 (by rfl) B.range (pa_cons pe_int pa_nil)) (blkOk_by (N := ["pool", "lot", "made", "row", "line", "many", "signs", "sign", "cut", "bent", "far", "spot", "due", "strange", "bad", "rows", "told", "some", "turn", "way", "letter"]) (sc := defScope sFits) (by decide +kernel)) (fun _ _ _ _ _ => pg_name (i := 19) scFits.nd rfl (Or.inl rfl)) (fun _ _ _ _ _ => pts_nil) (fun _ _ _ _ _ => (pe_call CA.G hr6 (by rfl) CA.g CA.k CA.b .nil pass0 (pa_cons (pv 19) (pa_cons (pv 2) (pa_cons (pv 9) (pa_cons (pv 11) pa_nil))))))) pa_nil)) (pe_callB (call_repr hG hr.units) (by rfl) B.repr (by decide +kernel) (pa_cons (pe_op op_rep (pe_lst (pa_cons (pv 12) pa_nil)) pe_int) pa_nil)) (nomark _)) (pss_one (ps_ret pe_bl)) pss_nil)
      (pss_cons (ps_set (i := 12) scFits.nd rfl (Or.inl rfl) (pe_op op_cat (pe_op op_rep (pe_lst (pa_cons pe_non pa_nil)) pe_int) (pe_op op_rep (pe_lst (pa_cons (pe_lst (pa_cons pe_bl (pa_cons pe_bl (pa_cons pe_bl (pa_cons pe_bl (pa_cons (pv 11) pa_nil)))))) pa_nil)) pe_int)))
      (pss_cons (ps_if (pt_cmpR op_ne (pe_callB (call_repr hG hr.units) (by rfl) B.repr (by decide +kernel) (pa_cons (pe_lc (own := [("way", 19)]) (g := gName 19) (tt := tYes) rfl scFits.nd (pi_range1 (by rfl) B.range (pa_cons pe_int pa_nil)) (blkOk_by (N := ["pool", "lot", "made", "row", "line", "many", "signs", "sign", "cut", "bent", "far", "spot", "due", "strange", "bad", "rows", "told", "some", "turn", "way", "letter"]) (sc := defScope sFits) (by decide +kernel)) (fun _ _ _ _ _ => pg_name (i := 19) scFits.nd rfl (Or.inl rfl)) (fun _ _ _ _ _ => pts_nil) (fun _ _ _ _ _ => (pe_call CA.G hr6 (by rfl) CA.g CA.k CA.b .nil pass0 (pa_cons (pv 19) (pa_cons (pv 2) (pa_cons (pv 4) (pa_cons (pv 11) pa_nil))))))) pa_nil)) (pe_callB (call_repr hG hr.units) (by rfl) B.repr (by decide +kernel) (pa_cons (pv 12) pa_nil)) (nomark _)) (pss_one (ps_ret pe_bl)) pss_nil)
      (pss_cons (ps_if (pt_cmpR (op_neD hr.units) (pe_lc (own := [("way", 19)]) (g := gName 19) (tt := tYes) rfl scFits.nd (pi_range1 (by rfl) B.range (pa_cons pe_int pa_nil)) (blkOk_by (N := ["pool", "lot", "made", "row", "line", "many", "signs", "sign", "cut", "bent", "far", "spot", "due", "strange", "bad", "rows", "told", "some", "turn", "way", "letter"]) (sc := defScope sFits) (by decide +kernel)) (fun _ _ _ _ _ => pg_name (i := 19) scFits.nd rfl (Or.inl rfl)) (fun _ _ _ _ _ => pts_nil) (fun _ _ _ _ _ => (pe_call CA.G hr6 (by rfl) CA.g CA.k CA.b .nil pass0 (pa_cons (pv 19) (pa_cons (pv 2) (pa_cons (pv 4) (pa_cons (pe_op op_sub (pv 5) pe_int) pa_nil))))))) (pe_op op_rep (pe_lst (pa_cons pe_non pa_nil)) pe_int) (nomark _)) (pss_one (ps_ret pe_bl)) pss_nil)
      (pss_cons (ps_set (i := 13) scFits.nd rfl (Or.inl rfl) (pe_slice sl_str (pe_join pe_str (pe_lc (own := [("letter", 20)]) (g := gName 20) rfl scFits.nd (pi_str pe_str) (blkOk_by (N := ["pool", "lot", "made", "row", "line", "many", "signs", "sign", "cut", "bent", "far", "spot", "due", "strange", "bad", "rows", "told", "some", "turn", "way", "letter"]) (sc := defScope sFits) (by decide +kernel)) (fun _ _ _ _ _ => pg_name (i := 20) scFits.nd rfl (Or.inl rfl)) (fun _ _ _ _ _ => (pts_one (pt_cmpR op_notIn_sign (pv 20) (pe_joinK (K := K) rfl pe_str (pv 1)) rfl))) (fun _ _ _ _ _ => (pv 20)))) po_none (po_some pe_int)))
      (pss_cons (ps_if (PW.pt (pw_and (pt_cmpR op_ne (pv 13) pe_str (nomark _)) (pw_and1 (pt_cmpR op_ne (pe_callB (call_repr hG hr.units) (by rfl) B.repr (by decide +kernel) (pa_cons (pe_call CA.G hr6 (by rfl) CA.g CA.k CA.b .nil pass0 (pa_cons pe_int (pa_cons (pv 2) (pa_cons (pe_op op_add_str (pv 4) (pv 13)) (pa_cons pe_int pa_nil))))) pa_nil)) (pe_callB (call_repr hG hr.units) (by rfl) B.repr (by decide +kernel) (pa_cons (pe_lst (pa_cons pe_bl (pa_cons pe_bl (pa_cons pe_bl (pa_cons pe_bl (pa_cons pe_int pa_nil)))))) pa_nil)) (nomark _))))) (pss_one (ps_ret pe_bl)) pss_nil)
      (pss_cons (ps_set (i := 14) scFits.nd rfl (Or.inl rfl) (pe_ix ix_list (pe_lst (pa_cons (pe_callB call_len_seq (by rfl) B.len PySem.boot_len (pa_cons (pv 1) pa_nil)) (pa_cons (pe_un un_neg pe_int) (pa_cons (pe_op op_pow pe_int pe_int) pa_nil)))) (pe_call D.G hr1 (by rfl) D.g D.k D.b .nil pass0 (pa_cons (pv 0) (pa_cons pe_int pa_nil))) (fun _ _ => rfl)))
      (pss_cons (ps_set (i := 15) scFits.nd rfl (Or.inl rfl) (pe_lst (pa_cons (pv 3) (pa_cons (pe_op op_cat (pv 3) (pe_lst (pa_cons (pv 14) pa_nil))) (pa_cons (pe_op op_cat (pe_lst (pa_cons (pv 14) (pa_cons (pe_un un_neg pe_int) pa_nil))) (pv 3)) pa_nil)))))
      (pss_cons (ps_set (i := 12) scFits.nd rfl (Or.inl rfl) (pe_op op_cat (pe_op op_rep (pe_lst (pa_cons pe_non pa_nil)) pe_int) (pe_op op_rep (pe_lst (pa_cons (pe_lst (pa_cons pe_bl (pa_cons pe_bl (pa_cons pe_bl (pa_cons pe_bl (pa_cons (pv 14) pa_nil)))))) pa_nil)) pe_int)))
      (pss_cons (ps_set (i := 16) scFits.nd rfl (Or.inl rfl) (pe_lst pa_nil))
      (pss_cons (ps_for PassesOwn.never rfl (pi_list (pv 15)) (pg_name (i := 17) scFits.nd rfl (Or.inr rfl)) (pss_one (ps_expr (pe_bm PySem.F.plainAttrs_list PySem.F.slot_list_extend PySem.F.type_list_extend mt_extend (pv 16) (pa_cons (pe_lc (own := [("way", 19)]) (g := gName 19) (tt := tYes) rfl scFits.nd (pi_tup (pe_tup (pa_cons pe_int (pa_cons pe_int pa_nil)))) (blkOk_by (N := ["pool", "lot", "made", "row", "line", "many", "signs", "sign", "cut", "bent", "far", "spot", "due", "strange", "bad", "rows", "told", "some", "turn", "way", "letter"]) (sc := defScope sFits) (by decide +kernel)) (fun _ _ _ _ _ => pg_name (i := 19) scFits.nd rfl (Or.inl rfl)) (fun _ _ _ _ _ => pts_nil) (fun _ _ _ _ _ => (pe_call CA.G hr6 (by rfl) CA.g CA.k CA.b .nil pass0 (pa_cons (pv 19) (pa_cons (pv 2) (pa_cons (pv 17) (pa_cons pe_int pa_nil))))))) pa_nil)))))
      (pss_one (ps_ret (pe_cmpR op_eq (pe_callB (call_repr hG hr.units) (by rfl) B.repr (by decide +kernel) (pa_cons (pv 16) pa_nil)) (pe_callB (call_repr hG hr.units) (by rfl) B.repr (by decide +kernel) (pa_cons (pv 12) pa_nil)) (nomark _))))))))))))))))))))))))), ?_⟩
    refine ⟨_, rfl, p, 6, 4, n, rfl, hp, by omega, by decide, by decide, by decide, by decide, fun l ws H1 nl hl lo4 l1 l6 hp1 b1 => ?_⟩
    have lo : LotOk ws 8 := ⟨lo4.nd, fun x hx => ⟨(lo4.l x hx).1, (lo4.l x hx).2.1, by have := (lo4.l x hx).2.2; omega⟩⟩
    have g := good_lot lo l1 (by omega)
    have npl := (hp.ne nl).symm
    have h4 : ∀ x ∈ ws, x.length ≤ 4 := fun x hx => by have := (lo4.l x hx).2.2; omega
    have gl := good_len g
    have gw := fun x hx => (gl x hx).1
    refine ⟨_, rfl, ?_⟩
    intro m mdx nm nmdx nemdx
    refine ⟨m, mdx, l, ws, rfl, upd_same, (mk_s0 nm nmdx).seq (SqL.of hl), g, fun H2 st2 kp2 => ⟨rfl, ?_⟩⟩
    have s2 : Same H1 H2 := mk_same nm nmdx kp2
    have hp2 := hp1.same s2
    refine ⟨_, rfl, p, _, _, rfl, hp2, by omega, by decide, by decide, fun k H3 k0 k1 hp3 b3 => ?_⟩
    refine ⟨_, rfl, by omega, by omega, fun D0 hD0 => ?_⟩
    have npD : p ≠ D0 := hp3.ne hD0
    have nlD : l ≠ D0 := ne_of_none (b3 _ _ npl (s2 _ _ hl)) hD0
    have sD := same_upd (o := .lst []) hD0
    refine lc_it walk_range (fun i H' => ∃ ns : List Int, ns.length = i ∧ H' D0 = some (.lst (ns.map V.int)) ∧ (∀ x ∈ ns, rowOk ws.length x = true) ∧ PoolAt H' p (n + 501 + i) ∧ H' l = some (.lst (ws.map V.str)) ∧ StkAt C H' m ws ∧ SameBut p H H')
      ⟨[], rfl, upd_same, fun x hx => by simp at hx, (hp3.same sD).le (by simp; omega), sD _ _ (b3 _ _ npl (s2 _ _ hl)), (st2.but hp2 b3).same sD, (b1.trans (Same.but s2)).trans (b3.trans (Same.but sD))⟩ (fun _ _ _ _ => trivial) ?_ ?_
    · rintro i x H4 H5 hi ⟨ns, hns, hD4, hok, hp4, hl4, st4, b4⟩ ⟨rfl, rfl⟩
      refine ⟨rfl, yesT ?_⟩
      refine ⟨_, rfl, _, rfl, l, _, rfl, .inl (SqL.of hl4), p, _, _, rfl, hp4, by omega, by rw [List.length_map]; omega, by rw [List.length_map]; omega, fun e H6 e0 e1 hp6 b6 => ?_⟩
      rw [List.length_map] at e1
      have hD6 := b6 _ _ npD.symm hD4
      refine ⟨ns.map V.int, hD6, ?_, ns ++ [e], by simp [hns], by rw [upd_same]; simp, ?_, ?_, ?_, ?_, ?_⟩
      · rw [List.length_map]
        exact Nat.lt_of_le_of_lt (show ns.length ≤ 10 by omega) (by decide)
      · intro y hy
        rcases List.mem_append.mp hy with z | z
        · exact hok y z
        · have ey : y = e := by simpa using z
          rw [ey]
          unfold rowOk
          rw [decide_eq_true e0, decide_eq_true e1]
          rfl
      · exact (hp6.upd npD).le (by push_cast; omega)
      · rw [upd_ne nlD]
        exact b6 _ _ npl hl4
      · exact (st4.but hp4 b6).butL hD6 but_upd
      · intro b o nb hb
        have nbD : b ≠ D0 := by
          intro z
          subst z
          have := (b1.trans (Same.but s2)).trans b3 _ _ nb hb
          rw [hD0] at this
          cases this
        rw [upd_ne nbD]
        exact b6 _ _ nb (b4 _ _ nb hb)
    rintro H4 ⟨ns, hns, hr4, hok, hp4, hl4, st4, b4⟩
    have nsl : ns.length ≤ 3 := by omega
    have nrD0 : H D0 = none := ((b1.trans (Same.but s2)).trans b3).free npD.symm hD0
    clear st2 kp2
    refine ⟨(by show 2 ≤ sizeLine; decide), fun tp ntp => ?_⟩
    have s5 := same_upd (o := .tup [.ref m, .ref D0]) ntp
    refine ⟨tp, _, rfl, SqT.of upd_same, rfl, _, _, rfl, ?_⟩
    refine ⟨_, _, rfl, rfl, ?_⟩
    have hl5 := s5 _ _ hl4
    have hr5 := s5 _ _ hr4
    have hp5 := hp4.same s5
    have st5 := st4.same s5
    have b5 : SameBut p H (upd H4 tp (.tup [.ref m, .ref D0])) := b4.trans (Same.but s5)
    generalize upd H4 tp (.tup [.ref m, .ref D0]) = H5 at hl5 hr5 hp5 st5 b5 ⊢
    clear st4 hp4 hl4 hr4 b4 s5
    obtain ⟨row, rfl, rok⟩ := nats_of hok
    refine ⟨_, rfl, _, rfl, l, D0, ws, _, rfl, SqL.of hl5, SqL.of hr5, fun x hx => (gl x hx).2, by omega, hok, fun H6 s6 => ?_⟩
    have zL := run_isL (good_isL g) (row.map fun (n : Nat) => (n : Int))
    have z12 : (run ws (row.map fun (n : Nat) => (n : Int))).length ≤ 12 := by
      have := run_size h4 (row.map fun (n : Nat) => (n : Int))
      omega
    have zc := run_codes ws row
    generalize run ws (row.map fun (n : Nat) => (n : Int)) = z at zL z12 zc ⊢
    have zs : z.length ≤ sizeLine := Nat.le_trans z12 (by decide)
    have cpos := cnt_pos gw rok zc
    have hcn : (RD ws z.cps.toList).length = cnt ws z := RD_len gw _
    have hzl := len_list z
    have hsm : (RD ws z.cps.toList).length ≤ 4096 := Nat.le_trans (RD_small gw g.nd _) (Nat.le_trans (Nat.pow_le_pow_right (by decide) (show z.cps.toList.length ≤ 12 by omega)) (by decide))
    refine ⟨_, rfl, _, rfl, l, ws, z, rfl, SqL.of (s6 _ _ hl5), g, z12, by omega, fun dl H7 ndl s7 r7 => ?_⟩
    obtain ⟨ls, hdl, hls, _⟩ := id r7
    have elen : (((ls.map V.ref).length : Nat) : Int) = ((cnt ws z : Nat) : Int) := by rw [List.length_map, hls, hcn]
    refine ⟨dl, _, rfl, .inl (SqL.of hdl), ?_⟩
    rw [elen]
    have s57 := s6.trans s7
    have hl7 := s57 _ _ hl5
    have hr7 := s57 _ _ hr5
    have hp7 := hp5.same s57
    have st7 := st5.same s57
    have b7 : SameBut p H H7 := b5.trans (Same.but s57)
    clear hl5 hr5 hp5 st5 b5 s57 s6 s7 hdl r7
    refine ⟨(by show 7 ≤ sizeLine; decide), fun sg nsg => ?_⟩
    have s8 := same_upd (o := .lst (sgn7.map V.str)) nsg
    have npsg : sg ≠ p := (hp7.ne nsg).symm
    have hsg : (upd H7 sg (.lst (sgn7.map V.str))) sg = some (.lst (sgn7.map V.str)) := upd_same
    have hl8 := s8 _ _ hl7
    have hr8 := s8 _ _ hr7
    have hp8 := hp7.same s8
    have st8 := st7.same s8
    have b8 : SameBut p H (upd H7 sg (.lst (sgn7.map V.str))) := b7.trans (Same.but s8)
    refine ⟨_, rfl, _, rfl, p, _, _, rfl, hp8, by omega, by decide, by decide, fun d H9 d0 d1 hp9 b9 => ?_⟩
    obtain ⟨sn, hsn, hsm, _⟩ := at_strs (ss := sgn7) d0 d1
    obtain ⟨sn1, snL, snO⟩ := sgn7_ok sn hsm
    refine ⟨sg, _, _, _, rfl, rfl, SqL.of (b9 _ _ npsg hsg), hsn, ?_⟩
    refine ⟨_, rfl, _, rfl, z, rfl, zs, _, _, rfl, rfl, p, _, _, rfl, hp9, by omega, by omega, by omega, fun cu H10 cu0 cu1 hp10 b10 => ⟨_, _, rfl, ?_⟩⟩
    have nrp : D0 ≠ p := npD.symm
    have b810 := b9.trans b10
    have hl10 := b810 _ _ npl hl8
    have hr10 := b810 _ _ nrp hr8
    have st10 := (st8.but hp8 b9).but hp9 b10
    have bb10 : SameBut p H H10 := b8.trans b810
    clear hl8 hr8 hp8 st8 b8 hp9 b9 b10 b810 hl7 hr7 hp7 st7 b7 s8 hsg npsg
    -- bent
    have la : (cutS z none (some cu)).length = min cu.toNat z.length := len_hi cu0
    have lb := len_app (cutS z none (some cu)) sn
    have lc : (cutS z (some cu) none).length = z.length - cu.toNat := len_lo cu0
    have ld := len_app (cutS z none (some cu) ++ sn) (cutS z (some cu) none)
    refine ⟨_, rfl, _, rfl, _, rfl, z, rfl, zs, _, rfl, _, _, rfl, rfl, Nat.le_trans (show (cutS z none (some cu)).length + sn.length ≤ 30 by omega) (by decide), _, rfl, _, rfl, _, rfl, z, rfl, zs, _, _, rfl, rfl, Nat.le_trans (show (cutS z none (some cu) ++ sn).length + (cutS z (some cu) none).length ≤ 60 by omega) (by decide), ?_⟩
    have bentL : isL (cutS z none (some cu) ++ sn ++ cutS z (some cu) none) = false := isL_bent snL
    have bentO : PyData.strOk (cutS z none (some cu) ++ sn ++ cutS z (some cu) none) = true := strOk_app (strOk_app (sok_isL (isL_hi cu0 zL)) snO) (sok_isL (isL_lo cu0 zL))
    have bent60 : (cutS z none (some cu) ++ sn ++ cutS z (some cu) none).length ≤ 60 := by omega
    generalize cutS z none (some cu) ++ sn ++ cutS z (some cu) none = bent at bentL bentO bent60 ⊢
    clear la lb lc ld
    -- far
    with_reducible show gName _ _ _ _ (tSeq _ _ _)
    refine seq_midN (fun σ H' => σ = [some (.ref p), some (.ref l), some (.ref m), some (.ref D0), some (.str z), some (.int ((cnt ws z : Nat) : Int)), some (.ref sg), some (.str sn), some (.int cu), some (.str bent), some (.int FAR), none, none, none, none, none, none, none, none, none, none] ∧ H' = H10) ?_ ?_
    · intro N hN
      refine ⟨_, _, rfl, rfl, ⟨by decide, by decide, by decide⟩, _, _, rfl, rfl, ⟨by decide, by decide, by decide⟩, _, _, rfl, rfl, far1, _, _, rfl, rfl, ⟨by decide, by decide, by decide⟩, _, _, rfl, rfl, far2, ?_⟩
      exact hN _ _ ⟨by rw [← farE]; rfl, rfl⟩
    rintro σ H10' ⟨rfl, eH⟩
    have eH' := eH.symm
    subst eH'
    clear eH
    -- spot
    refine ⟨_, rfl, _, rfl, _, rfl, _, _, rfl, rfl, _, rfl, _, rfl, _, _, rfl, rfl, (by show 5 ≤ sizeLine; decide), fun s5 ns5 => ?_⟩
    have ss5 := same_upd (o := .lst ([((cnt ws z : Nat) : Int), -1, ((cnt ws z : Nat) : Int) + 5, FAR, 0 - FAR].map V.int)) ns5
    have np5 : s5 ≠ p := (hp10.ne ns5).symm
    have h5 : (upd H10 s5 (.lst ([((cnt ws z : Nat) : Int), -1, ((cnt ws z : Nat) : Int) + 5, FAR, 0 - FAR].map V.int))) s5 = some (.lst ([((cnt ws z : Nat) : Int), -1, ((cnt ws z : Nat) : Int) + 5, FAR, 0 - FAR].map V.int)) := upd_same
    have hp5 := hp10.same ss5
    refine ⟨_, rfl, p, _, _, rfl, hp5, by omega, by decide, by decide, fun e H11 e0 e1 hp11 b11 => ?_⟩
    obtain ⟨spot, hspot, spm⟩ := at_ints (ks := [((cnt ws z : Nat) : Int), -1, ((cnt ws z : Nat) : Int) + 5, FAR, 0 - FAR]) e0 e1
    obtain ⟨spotN, spotB⟩ := spots_no cpos spm (by omega)
    refine ⟨s5, _, _, _, rfl, rfl, SqL.of (b11 _ _ np5 h5), hspot, ?_⟩
    have hl11 := b11 _ _ npl (ss5 _ _ hl10)
    have hr11 := b11 _ _ nrp (ss5 _ _ hr10)
    have st11 := (st10.same ss5).but hp5 b11
    have bb11 : SameBut p H H11 := bb10.trans ((Same.but ss5).trans b11)
    clear hl10 hr10 st10 bb10 b11 hp5 h5 ss5 hspot spm hp10
    -- due
    refine ⟨_, rfl, (by show 5 ≤ sizeLine; decide), fun du ndu => ?_⟩
    have s12 := same_upd (o := .lst [.bl true, .bl false, .bl false, .bl false, .str bent]) ndu
    have hdu : (upd H11 du (.lst [.bl true, .bl false, .bl false, .bl false, .str bent])) du = some (.lst [.bl true, .bl false, .bl false, .bl false, .str bent]) := upd_same
    have hl12 := s12 _ _ hl11
    have hr12 := s12 _ _ hr11
    have hp12 := hp11.same s12
    have st12 := st11.same s12
    have bb12 : SameBut p H (upd H11 du (.lst [.bl true, .bl false, .bl false, .bl false, .str bent])) := bb11.trans (Same.but s12)
    with_reducible show gName _ _ _ _ (tSeq _ _ _)
    generalize upd H11 du (.lst [.bl true, .bl false, .bl false, .bl false, .str bent]) = H12 at hdu hl12 hr12 hp12 st12 bb12 ⊢
    clear hl11 hr11 hp11 st11 bb11 s12
    -- the first asking
    refine seq_midN (fun σ H' => σ = [some (.ref p), some (.ref l), some (.ref m), some (.ref D0), some (.str z), some (.int ((cnt ws z : Nat) : Int)), some (.ref sg), some (.str sn), some (.int cu), some (.str bent), some (.int FAR), some (.int spot), some (.ref du), none, none, none, none, none, none, none, none] ∧ Same H12 H') ?_ ?_
    · intro N hN
      refine ⟨_, rfl, by decide, by decide, fun D hD => ?_⟩
      refine lc_out walk_range (fun i => oL (outS ws (0 + (i : Int)) spot bent)) (by decide) hD (fun _ _ => trivial) (fun _ => rfl) ?_ ?_
      · rintro i x Ha Hb N2 hi sa ⟨rfl, rfl⟩ h0 h1
        exact ⟨_, rfl, _, rfl, _, rfl, _, rfl, _, spot, m, ws, st12.same sa, g, .inl ⟨bent, rfl, by omega, by have : i < 6 := hi; omega, by omega, tellQ_of h0 h1⟩⟩
      · intro ys Ha sa ha hlen hys
        have ef : ∀ i : Nat, outS ws (0 + (i : Int)) spot bent = some (true, false, false, .str bent) := fun i => if_pos bentL
        have sm1 : Sm (dOut (some (true, false, false, .str bent))) 1 65 := sm_out fun b1 b2 b3 v hv => by
          cases hv
          exact Sm.str bentO bent60
        have sm6 := Sm.list (SmA.cons sm1 (SmA.cons sm1 (SmA.cons sm1 (SmA.cons sm1 (SmA.cons sm1 (SmA.cons sm1 (SmA.nil.mono (Nat.zero_le 1) (Nat.le_refl 0))))))))
        have dpl := dp_outs (K := K) (n := 6) ha hlen hys (fun j _ _ _ _ hv => outS_sc hv)
        rw [show ((List.range 6).map fun (j : Nat) => outS ws (0 + (j : Int)) spot bent) = [some (true, false, false, .str bent), some (true, false, false, .str bent), some (true, false, false, .str bent), some (true, false, false, .str bent), some (true, false, false, .str bent), some (true, false, false, .str bent)] from by simp only [ef]; rfl] at dpl
        obtain ⟨t1, t2, t3, t4, t5⟩ := sm6.repr (by decide) (by decide) dpl
        refine ⟨D, _, rfl, t1, t2, t3, t4, t5, ?_⟩
        refine ⟨_, rfl, (by show 1 ≤ sizeLine; decide), fun y ny => ?_⟩
        have sy := same_upd (o := .lst [.ref du]) ny
        refine ⟨y, 6, _, rfl, rfl, upd_same, by decide, by decide, (by show 1 * 6 ≤ sizeLine; decide), fun y2 ny2 => ?_⟩
        rw [rep6]
        have sy2 := same_upd (o := .lst [.ref du, .ref du, .ref du, .ref du, .ref du, .ref du]) ny2
        have dpd : Dp K (upd (upd Ha y (.lst [.ref du])) y2 (.lst [.ref du, .ref du, .ref du, .ref du, .ref du, .ref du])) (.ref du) (dOut (some (true, false, false, .str bent))) := dp_out (.inr ⟨_, du, rfl, rfl, sy2 _ _ (sy _ _ (sa _ _ hdu))⟩) fun b1 b2 b3 v hv => by
          cases hv
          trivial
        obtain ⟨u1, u2, u3, u4, u5⟩ := sm6.repr (a := y2) (by decide) (by decide) (.lst (SqL.of upd_same) (.cons dpd (.cons dpd (.cons dpd (.cons dpd (.cons dpd (.cons dpd .nil)))))))
        refine ⟨y2, _, rfl, u1, u2, u3, u4, u5, rfl, _, rfl, ?_⟩
        rw [decide_eq_true rfl]
        exact iteF (hN _ _ ⟨rfl, (sa.trans sy).trans sy2⟩)
    rintro σ H13 ⟨rfl, s13⟩
    have hl13 := s13 _ _ hl12
    have hr13 := s13 _ _ hr12
    have st13 := st12.same s13
    have hp13 := hp12.same s13
    have bb13 : SameBut p H H13 := bb12.trans (Same.but s13)
    clear s13 hl12 hr12 st12 hp12 bb12 hdu bentO bent60
    -- the second asking
    refine ⟨(by show 1 ≤ sizeLine; decide), fun a1 n1 => ?_⟩
    have z1 := same_upd (o := .lst [.non]) n1
    refine ⟨a1, 4, _, rfl, rfl, upd_same, by decide, by decide, (by show 1 * 4 ≤ sizeLine; decide), fun a2 n2 => ?_⟩
    rw [rep4]
    have z2 := same_upd (o := .lst [.non, .non, .non, .non]) n2
    refine ⟨_, rfl, (by show 5 ≤ sizeLine; decide), fun a3 n3 => ?_⟩
    have z3 := same_upd (o := .lst [.bl false, .bl true, .bl false, .bl false, .int spot]) n3
    refine ⟨(by show 1 ≤ sizeLine; decide), fun a4 n4 => ?_⟩
    have z4 := same_upd (o := .lst [.ref a3]) n4
    refine ⟨a4, 2, _, rfl, rfl, upd_same, by decide, by decide, (by show 1 * 2 ≤ sizeLine; decide), fun a5 n5 => ?_⟩
    rw [rep2]
    have z5 := same_upd (o := .lst [.ref a3, .ref a3]) n5
    refine ⟨a2, a5, _, _, rfl, rfl, z5 _ _ (z4 _ _ (z3 _ _ upd_same)), upd_same, (by show 4 + 2 ≤ sizeLine; decide), fun du2 nd2 => ?_⟩
    have z6 := same_upd (o := .lst [.non, .non, .non, .non, .ref a3, .ref a3]) nd2
    have z16 := ((((z1.trans z2).trans z3).trans z4).trans z5).trans z6
    have ha3 := z6 _ _ (z5 _ _ (z4 _ _ (upd_same (H := upd (upd H13 a1 (.lst [.non])) a2 (.lst [.non, .non, .non, .non])) (a := a3) (o := .lst [.bl false, .bl true, .bl false, .bl false, .int spot]))))
    have hd2 : (upd (upd (upd (upd (upd (upd H13 a1 (.lst [.non])) a2 (.lst [.non, .non, .non, .non])) a3 (.lst [.bl false, .bl true, .bl false, .bl false, .int spot])) a4 (.lst [.ref a3])) a5 (.lst [.ref a3, .ref a3])) du2 (.lst [.non, .non, .non, .non, .ref a3, .ref a3])) du2 = some (.lst [.non, .non, .non, .non, .ref a3, .ref a3]) := upd_same
    rw [show ([V.non, V.non, V.non, V.non] ++ [V.ref a3, V.ref a3] : List V) = [.non, .non, .non, .non, .ref a3, .ref a3] from rfl]
    with_reducible show gName _ _ _ _ (tSeq _ _ _)
    generalize upd (upd (upd (upd (upd (upd H13 a1 (.lst [.non])) a2 (.lst [.non, .non, .non, .non])) a3 (.lst [.bl false, .bl true, .bl false, .bl false, .int spot])) a4 (.lst [.ref a3])) a5 (.lst [.ref a3, .ref a3])) du2 (.lst [.non, .non, .non, .non, .ref a3, .ref a3]) = H14 at z16 ha3 hd2 ⊢
    have st14 := st13.same z16
    -- asking with the line itself
    refine seq_midN (fun σ H' => σ = [some (.ref p), some (.ref l), some (.ref m), some (.ref D0), some (.str z), some (.int ((cnt ws z : Nat) : Int)), some (.ref sg), some (.str sn), some (.int cu), some (.str bent), some (.int FAR), some (.int spot), some (.ref du2), none, none, none, none, none, none, none, none] ∧ Same H14 H') ?_ ?_
    · intro N hN
      refine ⟨_, rfl, by decide, by decide, fun D hD => ?_⟩
      refine lc_out walk_range (fun i => oL (outS ws (0 + (i : Int)) spot z)) (by decide) hD (fun _ _ => trivial) (fun _ => rfl) ?_ ?_
      · rintro i x Ha Hb N2 hi sa ⟨rfl, rfl⟩ h0 h1
        exact ⟨_, rfl, _, rfl, _, rfl, _, rfl, _, spot, m, ws, st14.same sa, g, .inl ⟨z, rfl, by omega, by have : i < 6 := hi; omega, by omega, tellQ_of h0 h1⟩⟩
      · intro ys Ha sa ha hlen hys
        have e0 : ∀ i : Nat, i < 4 → outS ws (0 + (i : Int)) spot z = none := fun i hi => by
          unfold outS
          rw [if_neg (by rw [zL]; decide), if_pos (by omega)]
        have e4 : ∀ i : Nat, 4 ≤ i → outS ws (0 + (i : Int)) spot z = some (false, true, false, .int spot) := fun i hi => by
          unfold outS
          rw [if_neg (by rw [zL]; decide), if_neg (by omega), if_neg spotN]
        have sm1 : Sm (dOut (some (false, true, false, .int spot))) 1 1805 := sm_out (m := 1800) fun b1 b2 b3 v hv => by
          cases hv
          exact Sm.big (Nat.lt_of_lt_of_le spotB (Nat.pow_le_pow_right (by decide) (by decide)))
        have sm0 : Sm (dOut none) 1 0 := Sm.non.mono (by decide) (by decide)
        have sm6 := Sm.list (SmA.cons sm0 (SmA.cons sm0 (SmA.cons sm0 (SmA.cons sm0 (SmA.cons sm1 (SmA.cons sm1 (SmA.nil.mono (Nat.zero_le 1) (Nat.le_refl 0))))))))
        have dpl := dp_outs (K := K) (n := 6) ha hlen hys (fun j _ _ _ _ hv => outS_sc hv)
        rw [show ((List.range 6).map fun (j : Nat) => outS ws (0 + (j : Int)) spot z) = [none, none, none, none, some (false, true, false, .int spot), some (false, true, false, .int spot)] from by
          show [outS ws (0 + ((0 : Nat) : Int)) spot z, outS ws (0 + ((1 : Nat) : Int)) spot z, outS ws (0 + ((2 : Nat) : Int)) spot z, outS ws (0 + ((3 : Nat) : Int)) spot z, outS ws (0 + ((4 : Nat) : Int)) spot z, outS ws (0 + ((5 : Nat) : Int)) spot z] = _
          rw [e0 0 (by decide), e0 1 (by decide), e0 2 (by decide), e0 3 (by decide), e4 4 (by decide), e4 5 (by decide)]] at dpl
        obtain ⟨t1, t2, t3, t4, t5⟩ := sm6.repr (by decide) (by decide) dpl
        refine ⟨D, _, rfl, t1, t2, t3, t4, t5, ?_⟩
        have dpd : Dp K Ha (.ref a3) (dOut (some (false, true, false, .int spot))) := dp_out (.inr ⟨_, a3, rfl, rfl, sa _ _ ha3⟩) fun b1 b2 b3 v hv => by
          cases hv
          trivial
        obtain ⟨u1, u2, u3, u4, u5⟩ := sm6.repr (a := du2) (by decide) (by decide) (.lst (SqL.of (sa _ _ hd2)) (.cons .non (.cons .non (.cons .non (.cons .non (.cons dpd (.cons dpd .nil)))))))
        refine ⟨_, rfl, du2, _, rfl, u1, u2, u3, u4, u5, rfl, _, rfl, ?_⟩
        rw [decide_eq_true rfl]
        exact iteF (hN _ _ ⟨rfl, sa⟩)
    rintro σ H15 ⟨rfl, s15⟩
    have z15 := z16.trans s15
    have hl15 := z15 _ _ hl13
    have hr15 := z15 _ _ hr13
    have st15 := st13.same z15
    have hp15 := hp13.same z15
    have bb15 : SameBut p H H15 := bb13.trans (Same.but z15)
    clear z15 s15 hl13 hr13 st13 hp13 bb13 z16 ha3 hd2 st14
    -- asking with the last index
    refine seq_mid (fun σ H' => σ = [some (.ref p), some (.ref l), some (.ref m), some (.ref D0), some (.str z), some (.int ((cnt ws z : Nat) : Int)), some (.ref sg), some (.str sn), some (.int cu), some (.str bent), some (.int FAR), some (.int spot), some (.ref du2), none, none, none, none, none, none, none, none] ∧ Same H15 H') ?_ ?_
    · intro N hN
      refine ⟨_, rfl, by decide, by decide, fun D hD => ?_⟩
      refine lc_out walk_range (fun i => oL (outS ws (0 + (i : Int)) (((cnt ws z : Nat) : Int) - 1) z)) (by decide) hD (fun _ _ => trivial) (fun _ => rfl) ?_ ?_
      · rintro i x Ha Hb N2 hi sa ⟨rfl, rfl⟩ h0 h1
        exact ⟨_, rfl, _, rfl, _, rfl, _, rfl, _, _, rfl, rfl, _, _, m, ws, st15.same sa, g, .inl ⟨z, rfl, by omega, by have : i < 6 := hi; omega, by omega, tellQ_of h0 h1⟩⟩
      · intro ys Ha sa ha hlen hys
        have e0 : ∀ i : Nat, outS ws (0 + (i : Int)) (((cnt ws z : Nat) : Int) - 1) z = none := fun i => by
          unfold outS
          rw [if_neg (by rw [zL]; decide)]
          split
          · rfl
          · rw [if_pos (by omega)]
        refine ⟨(by show 1 ≤ sizeLine; decide), fun y ny => ?_⟩
        have sy := same_upd (o := .lst [.non]) ny
        refine ⟨y, 6, _, rfl, rfl, upd_same, by decide, by decide, (by show 1 * 6 ≤ sizeLine; decide), fun y2 ny2 => ?_⟩
        rw [rep6]
        have sy2 := same_upd (o := .lst [.non, .non, .non, .non, .non, .non]) ny2
        have sn0 : Sm (dOut none) 1 0 := Sm.non.mono (by decide) (by decide)
        have sm6 := Sm.list (SmA.cons sn0 (SmA.cons sn0 (SmA.cons sn0 (SmA.cons sn0 (SmA.cons sn0 (SmA.cons sn0 (SmA.nil.mono (Nat.zero_le 1) (Nat.le_refl 0))))))))
        have sy12 := sy.trans sy2
        have dp2 := dp_outs (K := K) (n := 6) (sy12 _ _ ha) hlen (fun j v hv => (hys j v hv).same sy12) (fun j _ _ _ _ hv => outS_sc hv)
        rw [show ((List.range 6).map fun (j : Nat) => outS ws (0 + (j : Int)) (((cnt ws z : Nat) : Int) - 1) z) = [none, none, none, none, none, none] from by simp only [e0]; rfl] at dp2
        refine ⟨_, _, dp2, .lst (SqL.of upd_same) (.cons .non (.cons .non (.cons .non (.cons .non (.cons .non (.cons .non .nil)))))), Sm.shaped sm6 (by decide), Sm.shaped sm6 (by decide), _, rfl, ?_⟩
        refine iteF ?_
        exact hN _ _ ⟨rfl, (sa.trans sy).trans sy2⟩
    rintro σ H16 ⟨rfl, s16⟩
    have hl16 := s16 _ _ hl15
    have hr16 := s16 _ _ hr15
    have st16 := st15.same s16
    have hp16 := hp15.same s16
    have bb16 : SameBut p H H16 := bb15.trans (Same.but s16)
    clear s16 hl15 hr15 st15 hp15 bb15
    -- the letter that no word has
    have jl : (ws.map fun x => x.length).sum ≤ 24 := by
      have := sum_len_le h4
      omega
    refine seq_mid (fun σ H' => σ = [some (.ref p), some (.ref l), some (.ref m), some (.ref D0), some (.str z), some (.int ((cnt ws z : Nat) : Int)), some (.ref sg), some (.str sn), some (.int cu), some (.str bent), some (.int FAR), some (.int spot), some (.ref du2), some (.str (strange (Txt.join "" ws))), none, none, none, none, none, none, none] ∧ Same H16 H') ?_ ?_
    · intro N hN
      refine ⟨⟨_, rfl⟩, _, rfl, fun D hD => ?_⟩
      refine lc_fm walk_str (fun i => (odd1 (Txt.join "" ws) i).map V.str) (by decide) hD (fun _ _ => trivial) ?_ ?_
      · rintro i x Ha Hb N hi sa ⟨rfl, c, hc, rfl⟩ hN
        refine ⟨rfl, _, rfl, ⟨_, rfl⟩, _, rfl, _, l, ws, rfl, rfl, .inl (SqL.of (sa _ _ hl16)), Nat.le_trans (show (ws.map fun x => x.length).sum + ws.length * (0 : Nat) ≤ 24 by omega) (by decide), c, _, rfl, rfl, _, rfl, ?_⟩
        have ec : LET.cps.getD i 0 = c := getD_at hi hc
        have := hN Hb (Same.refl _)
        unfold odd1 at this
        rw [ec] at this
        by_cases hm : c ∈ (Txt.join "" ws).cps.toList
        · rw [if_pos hm] at this
          rw [decide_eq_true hm]
          exact iteF this
        · rw [if_neg hm] at this
          rw [decide_eq_false hm]
          exact iteT ⟨_, rfl, this⟩
      intro Ha sa ha
      rw [odds_fmr] at ha
      refine ⟨_, D, odds (Txt.join "" ws) 26, rfl, rfl, .inl (SqL.of ha), Nat.le_trans (show ((odds (Txt.join "" ws) 26).map fun x => x.length).sum + (odds (Txt.join "" ws) 26).length * (0 : Nat) ≤ 26 from by have := odds_sum (Txt.join "" ws); omega) (by decide), _, rfl, ?_⟩
      have ej : Txt.join "" (odds (Txt.join "" ws) 26) = catS (odds (Txt.join "" ws) 26) := join_cat rfl _
      rw [ej]
      refine ⟨_, rfl, Nat.le_trans (odds_cat _) (by decide), ?_⟩
      exact hN _ _ ⟨rfl, sa⟩
    rintro σ H17 ⟨rfl, s17⟩
    have hl17 := s17 _ _ hl16
    have hr17 := s17 _ _ hr16
    have st17 := st16.same s17
    have hp17 := hp16.same s17
    have bb17 : SameBut p H H17 := bb16.trans (Same.but s17)
    have stL := strange_isL (Txt.join "" ws)
    have stN := strange_len (Txt.join "" ws)
    have stC := strange_cnt gw (z := z)
    clear s17 hl16 hr16 st16 hp16 bb16 jl
    generalize strange (Txt.join "" ws) = odd at stL stN stC ⊢
    refine seq_mid (fun σ H' => σ = [some (.ref p), some (.ref l), some (.ref m), some (.ref D0), some (.str z), some (.int ((cnt ws z : Nat) : Int)), some (.ref sg), some (.str sn), some (.int cu), some (.str bent), some (.int FAR), some (.int spot), some (.ref du2), some (.str odd), none, none, none, none, none, none, none] ∧ Same H17 H') ?_ ?_
    · intro N hN
      refine ⟨_, rfl, rfl, _, rfl, ?_⟩
      by_cases ho : odd = ""
      · rw [decide_eq_true (congrArg V.str ho)]
        exact iteF (iteF (hN _ _ ⟨rfl, Same.refl _⟩))
      rw [decide_eq_false (fun h => ho (V.str.inj h))]
      refine iteT ?_
      have hc0 := stC ho
      have lzo := len_app z odd
      have eo : outS ws 4 0 (z ++ odd) = some (false, true, false, .int 0) := outS_none (isL_app zL stL) (by decide) (by rw [hc0]; omega)
      refine ⟨_, rfl, _, rfl, _, rfl, _, _, rfl, rfl, Nat.le_trans (show z.length + odd.length ≤ 13 by omega) (by decide), _, _, m, ws, st17, g, .inl ⟨z ++ odd, rfl, by decide, by decide, by omega, ?_⟩⟩
      rw [eo]
      refine ⟨fun h => (nomatch h), fun b1 b2 b3 v hv l' Ha nl' sa ha => ?_⟩
      cases hv
      have sm1 : Sm (.list [.bool false, .bool true, .bool false, .bool false, .int 0]) 1 205 := sm_out (o := some (false, true, false, .int 0)) (m := 200) fun b1 b2 b3 v hv => by
        cases hv
        exact Sm.int (by decide +kernel)
      obtain ⟨t1, t2, t3, t4, t5⟩ := sm1.repr (a := l') (by decide) (by decide) (.lst (K := K) (SqL.of ha) (.cons (.bl _) (.cons (.bl _) (.cons (.bl _) (.cons (.bl _) (.cons (.int _) .nil))))))
      refine ⟨l', _, rfl, t1, t2, t3, t4, t5, ?_⟩
      refine ⟨(by show 5 ≤ sizeLine; decide), fun y ny => ?_⟩
      obtain ⟨u1, u2, u3, u4, u5⟩ := sm1.repr (a := y) (by decide) (by decide) (.lst (K := K) (H := upd Ha y (.lst [.bl false, .bl true, .bl false, .bl false, .int 0])) (SqL.of upd_same) (.cons (.bl _) (.cons (.bl _) (.cons (.bl _) (.cons (.bl _) (.cons (.int _) .nil))))))
      refine ⟨y, _, rfl, u1, u2, u3, u4, u5, rfl, _, rfl, ?_⟩
      rw [decide_eq_true rfl]
      exact iteF (hN _ _ ⟨rfl, sa.trans (same_upd ny)⟩)
    rintro σ H18 ⟨rfl, s18⟩
    have hl18 := s18 _ _ hl17
    have hr18 := s18 _ _ hr17
    have st18 := st17.same s18
    have hp18 := hp17.same s18
    have bb18 : SameBut p H H18 := bb17.trans (Same.but s18)
    clear s18 hl17 hr17 st17 hp17 bb17 stC
    -- bad
    refine ⟨_, rfl, l, _, rfl, .inl (SqL.of hl18), ?_⟩
    rw [List.length_map]
    refine ⟨_, rfl, _, _, rfl, rfl, ⟨by decide, by decide, by decide⟩, (by show 3 ≤ sizeLine; decide), fun ba nba => ?_⟩
    have sb := same_upd (o := .lst ((BADS ws.length).map V.int)) nba
    have npba : ba ≠ p := (hp18.ne nba).symm
    have hba : (upd H18 ba (.lst ((BADS ws.length).map V.int))) ba = some (.lst ((BADS ws.length).map V.int)) := upd_same
    have hpb := hp18.same sb
    refine ⟨_, rfl, p, _, _, rfl, hpb, by omega, by decide, by decide, fun e H19 e0 e1 hp19 b19 => ?_⟩
    obtain ⟨bad, hbad, badm⟩ := at_ints (ks := BADS ws.length) e0 e1
    obtain ⟨badN, badB⟩ := bads_no badm (by omega)
    refine ⟨ba, _, _, _, rfl, rfl, SqL.of (b19 _ _ npba hba), hbad, ?_⟩
    have hl19 := b19 _ _ npl (sb _ _ hl18)
    have hr19 := b19 _ _ nrp (sb _ _ hr18)
    have st19 := (st18.same sb).but hpb b19
    have bb19 : SameBut p H H19 := bb18.trans ((Same.but sb).trans b19)
    clear hl18 hr18 st18 bb18 b19 hpb hba sb hbad badm hp18
    -- rows
    generalize (row.map fun (n : Nat) => (n : Int)) = ns at hns hok nsl hr19
    with_reducible show gName _ _ _ _ (tSeq _ _ _)
    refine seq_midN (fun σ H' => ∃ rl r1 r2 : Addr, σ = [some (.ref p), some (.ref l), some (.ref m), some (.ref D0), some (.str z), some (.int ((cnt ws z : Nat) : Int)), some (.ref sg), some (.str sn), some (.int cu), some (.str bent), some (.int FAR), some (.int spot), some (.ref du2), some (.str odd), some (.int bad), some (.ref rl), none, none, none, none, none] ∧ Same H19 H' ∧ H' rl = some (.lst [.ref D0, .ref r1, .ref r2]) ∧ H' r1 = some (.lst ((ns ++ [bad]).map V.int)) ∧ H' r2 = some (.lst ((bad :: -2 :: ns).map V.int))) ?_ ?_
    · intro N hN
      refine ⟨_, rfl, _, rfl, _, rfl, (by show 1 ≤ sizeLine; decide), fun q1 nq1 => ?_⟩
      have sq1 := same_upd (o := .lst [.int bad]) nq1
      refine ⟨D0, q1, _, _, rfl, rfl, sq1 _ _ hr19, upd_same, Nat.le_trans (show (ns.map V.int).length + 1 ≤ 10 by rw [List.length_map]; omega) (by decide), fun r1 nr1 => ?_⟩
      have sr1 := same_upd (o := .lst (ns.map V.int ++ [.int bad])) nr1
      refine ⟨_, rfl, _, rfl, (by show 2 ≤ sizeLine; decide), fun q2 nq2 => ?_⟩
      have sq2 := same_upd (o := .lst [.int bad, .int (-2)]) nq2
      refine ⟨_, rfl, q2, D0, _, _, rfl, rfl, upd_same, sq2 _ _ (sr1 _ _ (sq1 _ _ hr19)), Nat.le_trans (show 2 + (ns.map V.int).length ≤ 10 by rw [List.length_map]; omega) (by decide), fun r2 nr2 => ?_⟩
      have sr2 := same_upd (o := .lst ([.int bad, .int (-2)] ++ ns.map V.int)) nr2
      refine ⟨(by show 3 ≤ sizeLine; decide), fun rl nrl => ?_⟩
      have srl := same_upd (o := .lst [.ref D0, .ref r1, .ref r2]) nrl
      exact hN _ _ ⟨rl, r1, r2, rfl, (((sq1.trans sr1).trans sq2).trans sr2).trans srl, upd_same, by rw [srl _ _ (sr2 _ _ (sq2 _ _ upd_same)), List.map_append]; rfl, srl _ _ upd_same⟩
    rintro σ H20 ⟨rl, r1, r2, rfl, s20, hrl, hr1, hr2⟩
    have hl20 := s20 _ _ hl19
    have hr20 := s20 _ _ hr19
    have st20 := st19.same s20
    have hp20 := hp19.same s20
    have bb20 : SameBut p H H20 := bb19.trans (Same.but s20)
    clear s20 hl19 hr19 st19 hp19 bb19
    -- due
    refine seq_mid (fun σ H' => ∃ du3 a3 : Addr, σ = [some (.ref p), some (.ref l), some (.ref m), some (.ref D0), some (.str z), some (.int ((cnt ws z : Nat) : Int)), some (.ref sg), some (.str sn), some (.int cu), some (.str bent), some (.int FAR), some (.int spot), some (.ref du3), some (.str odd), some (.int bad), some (.ref rl), none, none, none, none, none] ∧ Same H20 H' ∧ H' a3 = some (.lst [.bl false, .bl false, .bl true, .bl false, .int bad]) ∧ H' du3 = some (.lst [.non, .non, .ref a3, .ref a3, .ref a3, .ref a3])) ?_ ?_
    · intro N hN
      refine ⟨(by show 1 ≤ sizeLine; decide), fun a1 n1 => ?_⟩
      have z1 := same_upd (o := .lst [.non]) n1
      refine ⟨a1, 2, _, rfl, rfl, upd_same, by decide, by decide, (by show 1 * 2 ≤ sizeLine; decide), fun a2 n2 => ?_⟩
      rw [rep2]
      have z2 := same_upd (o := .lst [.non, .non]) n2
      refine ⟨_, rfl, (by show 5 ≤ sizeLine; decide), fun a3 n3 => ?_⟩
      have z3 := same_upd (o := .lst [.bl false, .bl false, .bl true, .bl false, .int bad]) n3
      refine ⟨(by show 1 ≤ sizeLine; decide), fun a4 n4 => ?_⟩
      have z4 := same_upd (o := .lst [.ref a3]) n4
      refine ⟨a4, 4, _, rfl, rfl, upd_same, by decide, by decide, (by show 1 * 4 ≤ sizeLine; decide), fun a5 n5 => ?_⟩
      rw [rep4]
      have z5 := same_upd (o := .lst [.ref a3, .ref a3, .ref a3, .ref a3]) n5
      refine ⟨a2, a5, _, _, rfl, rfl, z5 _ _ (z4 _ _ (z3 _ _ upd_same)), upd_same, (by show 2 + 4 ≤ sizeLine; decide), fun du3 nd3 => ?_⟩
      have z6 := same_upd (o := .lst [.non, .non, .ref a3, .ref a3, .ref a3, .ref a3]) nd3
      exact hN _ _ ⟨du3, a3, rfl, ((((z1.trans z2).trans z3).trans z4).trans z5).trans z6, z6 _ _ (z5 _ _ (z4 _ _ upd_same)), upd_same⟩
    rintro σ H21 ⟨du3, a3, rfl, s21, ha3, hd3⟩
    have hl21 := s21 _ _ hl20
    have hr21 := s21 _ _ hr20
    have hrl21 := s21 _ _ hrl
    have hr121 := s21 _ _ hr1
    have hr221 := s21 _ _ hr2
    have st21 := st20.same s21
    have hp21 := hp20.same s21
    have bb21 : SameBut p H H21 := bb20.trans (Same.but s21)
    clear s21 hl20 hr20 st20 hp20 bb20 hrl hr1 hr2
    -- told
    refine ⟨(by show 0 ≤ sizeLine; decide), fun T nT => ?_⟩
    have sT := same_upd (o := .lst []) nT
    have npT : p ≠ T := hp21.ne nT
    have rowsAt : ∀ (i : Nat) (x : V), ([.ref D0, .ref r1, .ref r2] : List V)[i]? = some x → i < 3 ∧ ∃ r : Addr, x = .ref r ∧ r ≠ T ∧ H21 r = some (.lst ((([ns, ns ++ [bad], bad :: -2 :: ns] : List (List Int)).getD i []).map V.int)) := by
      intro i x h
      match i, h with
      | 0, h => cases h; exact ⟨by decide, _, rfl, ne_of_none hr21 nT, hr21⟩
      | 1, h => cases h; exact ⟨by decide, _, rfl, ne_of_none hr121 nT, hr121⟩
      | 2, h => cases h; exact ⟨by decide, _, rfl, ne_of_none hr221 nT, hr221⟩
      | n + 3, h => simp at h
    have rowsLen : ∀ i : Nat, (([ns, ns ++ [bad], bad :: -2 :: ns] : List (List Int)).getD i []).length ≤ 10 := by
      intro i
      match i with
      | 0 => show ns.length ≤ 10; omega
      | 1 => show (ns ++ [bad]).length ≤ 10; rw [List.length_append]; show ns.length + 1 ≤ 10; omega
      | 2 => show ns.length + 1 + 1 ≤ 10; omega
      | n + 3 => show 0 ≤ 10; omega
    refine ⟨_, rfl, rl, rfl, ⟨_, SqL.of (sT _ _ hrl21)⟩, for_list (K := K) (a := rl) (xs := [.ref D0, .ref r1, .ref r2])
      (fun i σ H' => ∃ (v17 : Option V) (ys : List V), σ = [some (.ref p), some (.ref l), some (.ref m), some (.ref D0), some (.str z), some (.int ((cnt ws z : Nat) : Int)), some (.ref sg), some (.str sn), some (.int cu), some (.str bent), some (.int FAR), some (.int spot), some (.ref du3), some (.str odd), some (.int bad), some (.ref rl), some (.ref T), v17, none, none, none] ∧ SameBut T H21 H' ∧ H' T = some (.lst ys) ∧ ys.length = 2 * i ∧ ∀ (j : Nat) (y : V), ys[j]? = some y → IsOut (oL (outR ws (([ns, ns ++ [bad], bad :: -2 :: ns] : List (List Int)).getD (j / 2) []))) y H')
      ⟨none, [], rfl, Same.but sT, upd_same, rfl, fun j y h => by simp at h⟩ (fun i σ H' _ ⟨_, _, _, s', _⟩ => SqL.of (s' _ _ (ne_of_none hrl21 nT) hrl21)) ?_ ?_⟩
    · rintro i x σ H' hx ⟨v17, ys, rfl, s', hT, hlen, hys⟩
      obtain ⟨hi3, r, rfl, nrT, hr⟩ := rowsAt i x hx
      refine ⟨_, rfl, .inl ⟨rfl, _, SqL.of hT⟩, (by show 2 ≤ sizeLine; decide), fun tq ntq => ⟨tq, rfl, ⟨_, SqT.of upd_same⟩, fun D hD => ?_⟩⟩
      have stq := same_upd (o := .tup [.int 6, .int 7]) ntq
      refine lc_out (walk_tup (K := K) (a := tq) (xs := [.int 6, .int 7])) (fun _ => oL (outR ws (([ns, ns ++ [bad], bad :: -2 :: ns] : List (List Int)).getD i []))) (by decide) hD (fun H s => SqT.of (s _ _ upd_same)) (fun _ => rfl) ?_ ?_
      · rintro j x Ha Hb N2 hj sa ⟨rfl, hx2⟩ h0 h1
        have hj2 : j < 2 := hj
        have ex : x = .int (6 + (j : Int)) := by
          match j, hx2, hj2 with
          | 0, h, _ => exact (Option.some.inj h).symm
          | 1, h, _ => exact (Option.some.inj h).symm
        subst ex
        have sb : SameBut T H21 Hb := (s'.trans (Same.but stq)).trans (Same.but sa)
        exact ⟨_, rfl, _, rfl, _, rfl, _, 0, m, ws, (st21.same_but sb nT), g, .inr ⟨r, _, rfl, by omega, SqL.of (sb _ _ nrT hr), Nat.le_trans (rowsLen i) (by decide), tellQ_of h0 h1⟩⟩
      · intro ys2 Hc sc hc hlen2 hys2
        have sH' : Same H' Hc := stq.trans sc
        have hTc := sH' _ _ hT
        have nDT : D ≠ T := by
          intro z
          subst z
          rw [stq _ _ hT] at hD
          cases hD
        refine ⟨T, D, ys, ys2, rfl, rfl, hTc, hc, Nat.le_trans (show ys.length + ys2.length ≤ 8 by simp at hlen2; omega) (by decide), ?_⟩
        refine ⟨_, _, rfl, fun b o nb hb => ?_, upd_same, ?_, fun j y hj => ?_⟩
        · rw [upd_ne nb]
          exact sH' _ _ (s' _ _ nb hb)
        · rw [List.length_append, hlen, hlen2]
          show 2 * i + 2 = 2 * (i + 1)
          omega
        · have n5 : ys.length ≠ 5 := by omega
          by_cases hji : j < ys.length
          · rw [List.getElem?_append_left hji] at hj
            exact (hys j y hj).set (fun b o _ h => sH' b o h) hT n5
          · rw [List.getElem?_append_right (by omega)] at hj
            have hj3 := (List.getElem?_eq_some_iff.mp hj).1
            have e : j / 2 = i := by
              rw [hlen2] at hj3
              have : j - ys.length < 2 := hj3
              omega
            rw [e]
            exact (hys2 _ y hj).set (fun _ _ _ h => h) hTc n5
    · rintro σ H22 ⟨v17, ys, rfl, s22, hT, hlen, hys⟩
      have hd22 := s22 _ _ (ne_of_none hd3 nT) hd3
      have ha22 := s22 _ _ (ne_of_none ha3 nT) ha3
      have o1 : outR ws ns = none := outR_ok hok
      have o2 : outR ws (ns ++ [bad]) = some (false, false, true, .int bad) := outR_app (ms := []) hok badN
      have o3 : outR ws (bad :: -2 :: ns) = some (false, false, true, .int bad) := outR_app (ns := []) (fun x h => by simp at h) badN
      have dpl := dp_outs (K := K) (n := 6) hT (by rw [hlen]; rfl) hys (fun j _ _ _ _ hv => outR_sc hv)
      rw [show ((List.range 6).map fun (j : Nat) => outR ws (([ns, ns ++ [bad], bad :: -2 :: ns] : List (List Int)).getD (j / 2) [])) = [none, none, some (false, false, true, .int bad), some (false, false, true, .int bad), some (false, false, true, .int bad), some (false, false, true, .int bad)] from by
        show [outR ws ns, outR ws ns, outR ws (ns ++ [bad]), outR ws (ns ++ [bad]), outR ws (bad :: -2 :: ns), outR ws (bad :: -2 :: ns)] = _
        rw [o1, o2, o3]] at dpl
      have sm1 : Sm (dOut (some (false, false, true, .int bad))) 1 205 := sm_out (m := 200) fun b1 b2 b3 v hv => by
        cases hv
        exact Sm.int badB
      have sm0 : Sm (dOut none) 1 0 := Sm.non.mono (by decide) (by decide)
      have sm6 := Sm.list (SmA.cons sm0 (SmA.cons sm0 (SmA.cons sm1 (SmA.cons sm1 (SmA.cons sm1 (SmA.cons sm1 (SmA.nil.mono (Nat.zero_le 1) (Nat.le_refl 0))))))))
      obtain ⟨t1, t2, t3, t4, t5⟩ := sm6.repr (by decide) (by decide) dpl
      have dpd : Dp K H22 (.ref a3) (dOut (some (false, false, true, .int bad))) := dp_out (.inr ⟨_, a3, rfl, rfl, ha22⟩) fun b1 b2 b3 v hv => by
        cases hv
        trivial
      obtain ⟨u1, u2, u3, u4, u5⟩ := sm6.repr (a := du3) (by decide) (by decide) (.lst (SqL.of hd22) (.cons .non (.cons .non (.cons dpd (.cons dpd (.cons dpd (.cons dpd .nil)))))))
      refine ⟨_, rfl, T, _, rfl, t1, t2, t3, t4, t5, _, rfl, du3, _, rfl, u1, u2, u3, u4, u5, rfl, ?_⟩
      rw [decide_eq_true rfl]
      exact q H22 ((hp21.but npT s22).le (by omega)) (fun b o nb hb => s22 _ _ (fun z => by
        subst z
        have := bb21 _ _ nb hb
        rw [nT] at this
        cases this) (bb21 _ _ nb hb))
end
end WH
namespace WH
open PySem PySem.Spec PyProof.Rows L2
section
variable {P : Program} {w : World} {K : PySem.W.Frag} {mg : Str → Option Value} {base : Heap}
theorem scLaw : FnScope ["script", "spot", "pool", "turn"] ["script"] (defScope sLaw) := ⟨rfl, rfl, rfl, by decide +kernel, rfl, by decide +kernel, by decide +kernel⟩
def spLaw (K : PySem.W.Frag) : Sp := fun vs H Q _ => ∃ (a : Addr) (ns : List Int), vs = [.ref a] ∧ SqL K H a (ns.map V.int) ∧ ns.length ≤ 63 ∧ ∀ H', Q (.bl true) H'
theorem ok_law {f fP fF : Addr} {fd fdP fdF : FuncData} (F : Fun K "law" "law" sLaw f fd) (B : Bu mg) (PL : Cal P w K mg base 1 "_law_pool" ["script", "spot"] (spPool K) fP fdP) (FT : FnG P w K mg base CX0 14 fF fdF ["pool"] spFits) (bF : Binds K fdF ["pool"] []) (kF : PySem.W.keepIn K (.ref fF) = true) (gF : mg "_law_fits" = some (.ref fF)) : FnG P w K mg base CX0 15 f fd ["script"] (spLaw K) := by
  refine WH.Fun.okG F scLaw (fun vs H Q E h => ?_) (fun cdv A outer s H vs Q E hr hG h => ?_)
  · obtain ⟨a, ns, rfl, _⟩ := h
    rfl
  · obtain ⟨a, ns, rfl, hS, hlen, q⟩ := h
    have hr1 : Room 1 _ := hr.mono (by decide)
    refine ⟨_, (pss_cons (ps_for PassesOwn.never rfl (pi_range1 (by rfl) B.range (pa_cons (pe_callB (call_max2 rfl) (by rfl) B.max (by decide +kernel) (pa_cons pe_int (pa_cons (pe_callB (call_min2 rfl) (by rfl) B.min (by decide +kernel) (pa_cons pe_int (pa_cons (pe_callB call_len_seq (by rfl) B.len PySem.boot_len (pa_cons (pv 0) pa_nil)) pa_nil))) pa_nil))) pa_nil)) (pg_name (i := 1) scLaw.nd rfl (Or.inl rfl)) (pss_cons (ps_set (i := 2) scLaw.nd rfl (Or.inl rfl) (pe_call PL.G hr1 (by rfl) PL.g PL.k PL.b .nil pass0 (pa_cons (pv 0) (pa_cons (pv 1) pa_nil))))
      (pss_one (ps_for PassesOwn.never rfl (pi_range1 (by rfl) B.range (pa_cons pe_int pa_nil)) (pg_name (i := 3) scLaw.nd rfl (Or.inl rfl)) (pss_one (ps_if (pt_not (pt_val (pe_callG FT hr hG (by rfl) gF kF bF pass0 (pa_cons (pv 2) pa_nil)))) (pss_one (ps_ret pe_bl)) pss_nil))))))
      (pss_one (ps_ret pe_bl))), ?_⟩
    have jb : ∀ x : Int, 0 ≤ x → x ≤ 63 → 1 ≤ (if (if x < 6 then x else 6) > 1 then (if x < 6 then x else 6) else 1) ∧ (if (if x < 6 then x else 6) > 1 then (if x < 6 then x else 6) else 1) ≤ 6 := by
      intro x h0 h1
      split <;> split at * <;> omega
    obtain ⟨j1, j6⟩ := jb ((((ns.map V.int).length : Nat) : Int)) (by omega) (by rw [List.length_map]; omega)
    refine ⟨_, rfl, a, _, rfl, .inl hS, _, _, rfl, _, _, rfl, _, rfl, by omega, by omega, ?_⟩
    refine for_range (lo := 0) (fun i σ H2 => ∃ v1 v2 v3 : Option V, σ = [some (.ref a), v1, v2, v3] ∧ Same H H2) ⟨none, none, none, rfl, Same.refl _⟩ ?_ ?_
    · rintro i σ H2 hi ⟨v1, v2, v3, rfl, s2⟩
      have hi6 : i < 6 := by omega
      refine ⟨_, rfl, _, rfl, a, ns, i, by simp, s2.seq hS, by omega, fun p H3 np s3 hp3 => ?_⟩
      refine ⟨_, rfl, by decide, by decide, ?_⟩
      have s23 : Same H H3 := s2.trans s3
      have np0 : H p = none := s2.free np
      refine for_range (lo := 0) (fun t σ H4 => ∃ v3 : Option V, σ = [some (.ref a), some (.int (0 + i)), some (.ref p), v3] ∧ Same H H4 ∧ PoolAt H4 p (1000 * t)) ⟨v3, rfl, s23, hp3.le (by simp)⟩ ?_ ?_
      · rintro t σ H4 ht ⟨v3', rfl, s4, hp4⟩
        have ht6 : t < 4 := ht
        refine ⟨_, rfl, p, _, rfl, hp4, by omega, fun H5 hp5 b5 => ⟨_, rfl, iteF ?_⟩⟩
        exact ⟨_, rfl, fun b o e => b5 b o (ne_of_none e np0) (s4 b o e), hp5.le (by omega)⟩
      · rintro σ H4 ⟨v3', rfl, s4, hp4⟩
        exact ⟨_, _, _, rfl, s4⟩
    · rintro σ H2 ⟨v1, v2, v3, rfl, s2⟩
      exact q H2
end
theorem all_mk {l : PySem.W.OpenLaw} {w : World} {K : PySem.W.Frag} {h : Heap} {mg : Str → Option Value} {fa C pW f20 f1 f2 f3 f4 f5 f6 f7 f8 f9 f21 f22 f23 f24 f25 f26 f27 f28 f15 f30 f32 f33 f10 f11 f12 f14 f13 : Addr} {tL tM tN : Tok} {cW cT cN cR o1 o2 o3 o4 o5 o6 : Addr} {nmT qnT : Str} {NAT : Addr} {bsT : List Value} {snT : List Str} {subT : List Value} {abT : Bool} {colT : Option Bool} {ddT : Option Addr} {r0T r1T r2T r3T r5T : Option Value} {nmN qnN : Str} {NAN : Addr} {bsN : List Value} {snN : List Str} {subN : List Value} {abN : Bool} {colN : Option Bool} {ddN : Option Addr} {r0N r1N r2N r3N r5N : Option Value} {nmR qnR : Str} {NAR : Addr} {bsR : List Value} {snR : List Str} {subR : List Value} {abR : Bool} {colR : Option Bool} {ddR : Option Addr} {r0R r1R r2R r3R r5R : Option Value} {nmC qC : Str} {NC : Addr} {bsC : List Value} {snC : List Str} {subC : List Value} {abC : Bool} {colC : Option Bool} {ddC : Option Addr} {m0 m1 m2 m3 m5 : Option Value} {restP : List Value} (X : K.In h) (G : h.Ns mainGlobals mg) (hfa : mg "law" = some (.ref fa))
    {od1 an1 od2 an2 od3 an3 od4 an4 od5 an5 od6 an6 od7 an7 od8 an8 od9 an9 od21 an21 od22 an22 od23 an23 od24 an24 od25 an25 od26 an26 od27 an27 od28 an28 od15 an15 od30 an30 od32 an32 od33 an33 od10 an10 od11 an11 od12 an12 od14 an14 od13 an13 : Option Addr} {sl1 sl2 sl3 sl4 sl5 sl6 sl7 sl8 sl9 sl21 sl22 sl23 sl24 sl25 sl26 sl27 sl28 sl15 sl30 sl32 sl33 sl10 sl11 sl12 sl14 sl13 : Array (Option Value)} {oc1 kV1 dc1 pm1 cd1 ct1 oc2 kV2 dc2 pm2 cd2 ct2 oc3 kV3 dc3 pm3 cd3 ct3 oc4 kV4 dc4 pm4 cd4 ct4 oc5 kV5 dc5 pm5 cd5 ct5 oc6 kV6 dc6 pm6 cd6 ct6 oc7 kV7 dc7 pm7 cd7 ct7 oc8 kV8 dc8 pm8 cd8 ct8 oc9 kV9 dc9 pm9 cd9 ct9 oc21 kV21 dc21 pm21 cd21 ct21 oc22 kV22 dc22 pm22 cd22 ct22 oc23 kV23 dc23 pm23 cd23 ct23 oc24 kV24 dc24 pm24 cd24 ct24 oc25 kV25 dc25 pm25 cd25 ct25 oc26 kV26 dc26 pm26 cd26 ct26 oc27 kV27 dc27 pm27 cd27 ct27 oc28 kV28 dc28 pm28 cd28 ct28 oc15 kV15 dc15 pm15 cd15 ct15 oc30 kV30 dc30 pm30 cd30 ct30 oc32 kV32 dc32 pm32 cd32 ct32 oc33 kV33 dc33 pm33 cd33 ct33 oc10 kV10 dc10 pm10 cd10 ct10 oc11 kV11 dc11 pm11 cd11 ct11 oc12 kV12 dc12 pm12 cd12 ct12 oc14 kV14 dc14 pm14 cd14 ct14 oc13 kV13 dc13 pm13 cd13 ct13 : Value} {od20 an20 : Option Addr} {sl20 : Array (Option Value)} {oc20 kV20 dc20 pm20 cd20 ct20 : Value}
    (a1 : PySem.W.nsIn K mainGlobals "is_letters" = some (some (.ref f1))) (l1 : K.lookup f1 = some ⟨oc1, od1, .func (PySem.W.fnOf "is_letters" "is_letters" (defArgs sIsLetters) (defBody sIsLetters) (defScope sIsLetters) .none kV1 dc1 pm1 an1 cd1 ct1), sl1⟩) (c1 : PySem.W.codeIn K cd1 "is_letters" = true) (k1 : PySem.W.keepIn K (.ref f1) = true)
    (a2 : PySem.W.nsIn K mainGlobals "is_word" = some (some (.ref f2))) (l2 : K.lookup f2 = some ⟨oc2, od2, .func (PySem.W.fnOf "is_word" "is_word" (defArgs sIsWord) (defBody sIsWord) (defScope sIsWord) .none kV2 dc2 pm2 an2 cd2 ct2), sl2⟩) (c2 : PySem.W.codeIn K cd2 "is_word" = true) (k2 : PySem.W.keepIn K (.ref f2) = true)
    (a3 : PySem.W.nsIn K mainGlobals "check_words" = some (some (.ref f3))) (l3 : K.lookup f3 = some ⟨oc3, od3, .func (PySem.W.fnOf "check_words" "check_words" (defArgs sCheckWords) (defBody sCheckWords) (defScope sCheckWords) .none kV3 dc3 pm3 an3 cd3 ct3), sl3⟩) (c3 : PySem.W.codeIn K cd3 "check_words" = true) (k3 : PySem.W.keepIn K (.ref f3) = true)
    (a4 : PySem.W.nsIn K mainGlobals "check_reading" = some (some (.ref f4))) (l4 : K.lookup f4 = some ⟨oc4, od4, .func (PySem.W.fnOf "check_reading" "check_reading" (defArgs sCheckReading) (defBody sCheckReading) (defScope sCheckReading) .none kV4 dc4 pm4 an4 cd4 ct4), sl4⟩) (c4 : PySem.W.codeIn K cd4 "check_reading" = true) (k4 : PySem.W.keepIn K (.ref f4) = true)
    (a5 : PySem.W.nsIn K mainGlobals "joined" = some (some (.ref f5))) (l5 : K.lookup f5 = some ⟨oc5, od5, .func (PySem.W.fnOf "joined" "joined" (defArgs sJoined) (defBody sJoined) (defScope sJoined) .none kV5 dc5 pm5 an5 cd5 ct5), sl5⟩) (c5 : PySem.W.codeIn K cd5 "joined" = true) (k5 : PySem.W.keepIn K (.ref f5) = true)
    (a6 : PySem.W.nsIn K mainGlobals "_law_pool" = some (some (.ref f6))) (l6 : K.lookup f6 = some ⟨oc6, od6, .func (PySem.W.fnOf "_law_pool" "_law_pool" (defArgs sPool) (defBody sPool) (defScope sPool) .none kV6 dc6 pm6 an6 cd6 ct6), sl6⟩) (c6 : PySem.W.codeIn K cd6 "_law_pool" = true) (k6 : PySem.W.keepIn K (.ref f6) = true)
    (a7 : PySem.W.nsIn K mainGlobals "_law_draw" = some (some (.ref f7))) (l7 : K.lookup f7 = some ⟨oc7, od7, .func (PySem.W.fnOf "_law_draw" "_law_draw" (defArgs sDraw) (defBody sDraw) (defScope sDraw) .none kV7 dc7 pm7 an7 cd7 ct7), sl7⟩) (c7 : PySem.W.codeIn K cd7 "_law_draw" = true) (k7 : PySem.W.keepIn K (.ref f7) = true)
    (a8 : PySem.W.nsIn K mainGlobals "_law_word" = some (some (.ref f8))) (l8 : K.lookup f8 = some ⟨oc8, od8, .func (PySem.W.fnOf "_law_word" "_law_word" (defArgs sWord) (defBody sWord) (defScope sWord) .none kV8 dc8 pm8 an8 cd8 ct8), sl8⟩) (c8 : PySem.W.codeIn K cd8 "_law_word" = true) (k8 : PySem.W.keepIn K (.ref f8) = true)
    (a9 : PySem.W.nsIn K mainGlobals "_law_lot" = some (some (.ref f9))) (l9 : K.lookup f9 = some ⟨oc9, od9, .func (PySem.W.fnOf "_law_lot" "_law_lot" (defArgs sLot) (defBody sLot) (defScope sLot) .none kV9 dc9 pm9 an9 cd9 ct9), sl9⟩) (c9 : PySem.W.codeIn K cd9 "_law_lot" = true) (k9 : PySem.W.keepIn K (.ref f9) = true)
    (a21 : PySem.W.nsIn K mainGlobals "check_text" = some (some (.ref f21))) (l21 : K.lookup f21 = some ⟨oc21, od21, .func (PySem.W.fnOf "check_text" "check_text" (defArgs sCheckText) (defBody sCheckText) (defScope sCheckText) .none kV21 dc21 pm21 an21 cd21 ct21), sl21⟩) (c21 : PySem.W.codeIn K cd21 "check_text" = true) (k21 : PySem.W.keepIn K (.ref f21) = true)
    (a22 : PySem.W.nsIn K mainGlobals "ways_with" = some (some (.ref f22))) (l22 : K.lookup f22 = some ⟨oc22, od22, .func (PySem.W.fnOf "ways_with" "ways_with" (defArgs sWaysWith) (defBody sWaysWith) (defScope sWaysWith) .none kV22 dc22 pm22 an22 cd22 ct22), sl22⟩) (c22 : PySem.W.codeIn K cd22 "ways_with" = true) (k22 : PySem.W.keepIn K (.ref f22) = true)
    (a23 : PySem.W.nsIn K mainGlobals "all_ways" = some (some (.ref f23))) (l23 : K.lookup f23 = some ⟨oc23, od23, .func (PySem.W.fnOf "all_ways" "all_ways" (defArgs sAllWays) (defBody sAllWays) (defScope sAllWays) .none kV23 dc23 pm23 an23 cd23 ct23), sl23⟩) (c23 : PySem.W.codeIn K cd23 "all_ways" = true) (k23 : PySem.W.keepIn K (.ref f23) = true)
    (a24 : PySem.W.nsIn K mainGlobals "count_readings" = some (some (.ref f24))) (l24 : K.lookup f24 = some ⟨oc24, od24, .func (PySem.W.fnOf "count_readings" "count_readings" (defArgs sCount) (defBody sCount) (defScope sCount) .none kV24 dc24 pm24 an24 cd24 ct24), sl24⟩) (c24 : PySem.W.codeIn K cd24 "count_readings" = true) (k24 : PySem.W.keepIn K (.ref f24) = true)
    (a25 : PySem.W.nsIn K mainGlobals "is_text" = some (some (.ref f25))) (l25 : K.lookup f25 = some ⟨oc25, od25, .func (PySem.W.fnOf "is_text" "is_text" (defArgs sIsText) (defBody sIsText) (defScope sIsText) .none kV25 dc25 pm25 an25 cd25 ct25), sl25⟩) (c25 : PySem.W.codeIn K cd25 "is_text" = true) (k25 : PySem.W.keepIn K (.ref f25) = true)
    (a26 : PySem.W.nsIn K mainGlobals "nth_reading" = some (some (.ref f26))) (l26 : K.lookup f26 = some ⟨oc26, od26, .func (PySem.W.fnOf "nth_reading" "nth_reading" (defArgs sNth) (defBody sNth) (defScope sNth) .none kV26 dc26 pm26 an26 cd26 ct26), sl26⟩) (c26 : PySem.W.codeIn K cd26 "nth_reading" = true) (k26 : PySem.W.keepIn K (.ref f26) = true)
    (a27 : PySem.W.nsIn K mainGlobals "word_at_index" = some (some (.ref f27))) (l27 : K.lookup f27 = some ⟨oc27, od27, .func (PySem.W.fnOf "word_at_index" "word_at_index" (defArgs sWordAt) (defBody sWordAt) (defScope sWordAt) .none kV27 dc27 pm27 an27 cd27 ct27), sl27⟩) (c27 : PySem.W.codeIn K cd27 "word_at_index" = true) (k27 : PySem.W.keepIn K (.ref f27) = true)
    (a28 : PySem.W.nsIn K mainGlobals "reading_index" = some (some (.ref f28))) (l28 : K.lookup f28 = some ⟨oc28, od28, .func (PySem.W.fnOf "reading_index" "reading_index" (defArgs sIndex) (defBody sIndex) (defScope sIndex) .none kV28 dc28 pm28 an28 cd28 ct28), sl28⟩) (c28 : PySem.W.codeIn K cd28 "reading_index" = true) (k28 : PySem.W.keepIn K (.ref f28) = true)
    (a15 : PySem.W.nsIn K mainGlobals "_law_run" = some (some (.ref f15))) (l15 : K.lookup f15 = some ⟨oc15, od15, .func (PySem.W.fnOf "_law_run" "_law_run" (defArgs sRun) (defBody sRun) (defScope sRun) .none kV15 dc15 pm15 an15 cd15 ct15), sl15⟩) (c15 : PySem.W.codeIn K cd15 "_law_run" = true) (k15 : PySem.W.keepIn K (.ref f15) = true)
    (a30 : PySem.W.nsIn K mainGlobals "_law_all_readings" = some (some (.ref f30))) (l30 : K.lookup f30 = some ⟨oc30, od30, .func (PySem.W.fnOf "_law_all_readings" "_law_all_readings" (defArgs sAllReadings) (defBody sAllReadings) (defScope sAllReadings) .none kV30 dc30 pm30 an30 cd30 ct30), sl30⟩) (c30 : PySem.W.codeIn K cd30 "_law_all_readings" = true) (k30 : PySem.W.keepIn K (.ref f30) = true)
    (a32 : PySem.W.nsIn K mainGlobals "_law_flagged" = some (some (.ref f32))) (l32 : K.lookup f32 = some ⟨oc32, od32, .func (PySem.W.fnOf "_law_flagged" "_law_flagged" (defArgs sFlagged) (defBody sFlagged) (defScope sFlagged) .none kV32 dc32 pm32 an32 cd32 ct32), sl32⟩) (c32 : PySem.W.codeIn K cd32 "_law_flagged" = true) (k32 : PySem.W.keepIn K (.ref f32) = true)
    (a33 : PySem.W.nsIn K mainGlobals "_law_caught" = some (some (.ref f33))) (l33 : K.lookup f33 = some ⟨oc33, od33, .func (PySem.W.fnOf "_law_caught" "_law_caught" (defArgs sCaught) (defBody sCaught) (defScope sCaught) .none kV33 dc33 pm33 an33 cd33 ct33), sl33⟩) (c33 : PySem.W.codeIn K cd33 "_law_caught" = true) (k33 : PySem.W.keepIn K (.ref f33) = true)
    (a10 : PySem.W.nsIn K mainGlobals "_law_fits" = some (some (.ref f10))) (l10 : K.lookup f10 = some ⟨oc10, od10, .func (PySem.W.fnOf "_law_fits" "_law_fits" (defArgs sFits) (defBody sFits) (defScope sFits) .none kV10 dc10 pm10 an10 cd10 ct10), sl10⟩) (c10 : PySem.W.codeIn K cd10 "_law_fits" = true) (k10 : PySem.W.keepIn K (.ref f10) = true)
    (a11 : PySem.W.nsIn K mainGlobals "law" = some (some (.ref f11))) (l11 : K.lookup f11 = some ⟨oc11, od11, .func (PySem.W.fnOf "law" "law" (defArgs sLaw) (defBody sLaw) (defScope sLaw) .none kV11 dc11 pm11 an11 cd11 ct11), sl11⟩) (c11 : PySem.W.codeIn K cd11 "law" = true) (k11 : PySem.W.keepIn K (.ref f11) = true)
    (a12 : PySem.W.findIn K (.ref C) "__init__" = some (some (.ref f12))) (i12 : PySem.W.isFn K (.ref f12) = true) (l12 : K.lookup f12 = some ⟨oc12, od12, .func (PySem.W.fnOf "__init__" "Stock.__init__" (defArgs sSInit) (defBody sSInit) (defScope sSInit) .none kV12 dc12 pm12 an12 cd12 ct12), sl12⟩) (c12 : PySem.W.codeIn K cd12 "Stock.__init__" = true) (k12 : PySem.W.keepIn K (.ref f12) = true)
    (l14 : K.lookup f14 = some ⟨oc14, od14, .func (PySem.W.fnOf "words" "Stock.words" (defArgs sSWords) (defBody sSWords) (defScope sSWords) .none kV14 dc14 pm14 an14 cd14 ct14), sl14⟩) (c14 : PySem.W.codeIn K cd14 "Stock.words" = true) (k14 : PySem.W.keepIn K (.ref f14) = true)
    (a13 : PySem.W.findIn K (.ref C) "__eq__" = some (some (.ref f13))) (i13 : PySem.W.isFn K (.ref f13) = true) (l13 : K.lookup f13 = some ⟨oc13, od13, .func (PySem.W.fnOf "__eq__" "Stock.__eq__" (defArgs sSEq) (defBody sSEq) (defScope sSEq) .none kV13 dc13 pm13 an13 cd13 ct13), sl13⟩) (c13 : PySem.W.codeIn K cd13 "Stock.__eq__" = true) (k13 : PySem.W.keepIn K (.ref f13) = true)
    (vL : PySem.W.nsIn K mainGlobals "LETTERS" = some (some (.str LET tL)))
    (vM : PySem.W.nsIn K mainGlobals "MOST_LETTERS" = some (some (.int 8 tM)))
    (vN : PySem.W.nsIn K mainGlobals "MOST_WORDS" = some (some (.int 8 tN)))
    (z_len : PySem.W.nsIn K mainGlobals "len" = some none)
    (z_max : PySem.W.nsIn K mainGlobals "max" = some none)
    (z_min : PySem.W.nsIn K mainGlobals "min" = some none)
    (z_abs : PySem.W.nsIn K mainGlobals "abs" = some none)
    (z_int : PySem.W.nsIn K mainGlobals "int" = some none)
    (z_range : PySem.W.nsIn K mainGlobals "range" = some none)
    (z_all : PySem.W.nsIn K mainGlobals "all" = some none)
    (z_set : PySem.W.nsIn K mainGlobals "set" = some none)
    (z_tuple : PySem.W.nsIn K mainGlobals "tuple" = some none)
    (z_list : PySem.W.nsIn K mainGlobals "list" = some none)
    (z_isinstance : PySem.W.nsIn K mainGlobals "isinstance" = some none)
    (z_repr : PySem.W.nsIn K mainGlobals "repr" = some none)
    (z_ValueError : PySem.W.nsIn K mainGlobals "ValueError" = some none)
    (z_sum : PySem.W.nsIn K mainGlobals "sum" = some none)
    (z_enumerate : PySem.W.nsIn K mainGlobals "enumerate" = some none)
    (z_reversed : PySem.W.nsIn K mainGlobals "reversed" = some none)
    (aC : PySem.W.nsIn K mainGlobals "Stock" = some (some (.ref C)))
    (pg : PySem.W.plainGet K C Str.empty = true)
    (hd : PySem.W.hasDictIn K C = true)
    (po : PySem.W.plainOver K C = true)
    (sa : PySem.W.findIn K (.ref C) "__setattr__" = some (some (.builtin "object.__setattr__")))
    (mk : PySem.W.makesIn K C = true)
    (kc : PySem.W.keepIn K (.ref C) = true)
    (nW : PySem.W.findIn K (.ref C) "_words" = some none)
    (xC : K.lookup C = some (excClassObj nmC qC C NC bsC [.type "object"] true snC subC abC colC ddC m0 m1 m2 m3 m5 "object.__new__"))
    (ne : PySem.W.findIn K (.ref C) "__ne__" = some (some (.builtin "object.__ne__")))
    (pa : PySem.W.findIn K (.ref C) "words" = some (some (.ref pW)))
    (pget : PySem.W.specialIn K (.ref pW) "__get__" = some (some (.builtin "property.__get__")))
    (ptk : PySem.W.takesIn K (.ref pW) = some true)
    (prc : PySem.W.recIn K pW "property" = some (.ref f14 :: restP))
    (ha : PySem.W.findIn K (.ref C) "__class__" = some (some (.builtin "object.__class__")))
    (hn : PySem.W.specialIn K (.builtin "object.__class__") "__get__" = some (some (.builtin "getset_descriptor.__get__")))
    (htk : PySem.W.takesIn K (.builtin "object.__class__") = some true)
    (hm : PySem.W.mroIn K C (.type "object") = some true)
    (ki : PySem.W.kitOne K (.ref C) (.ref C) = some true)
    (n_cW : PySem.W.nsIn K mainGlobals "WordError" = some (some (.ref cW)))
    (n_cT : PySem.W.nsIn K mainGlobals "InvalidText" = some (some (.ref cT)))
    (n_cN : PySem.W.nsIn K mainGlobals "InvalidNumber" = some (some (.ref cN)))
    (n_cR : PySem.W.nsIn K mainGlobals "InvalidReading" = some (some (.ref cR)))
    (n_o1 : PySem.W.nsIn K mainGlobals "InvalidWord" = some (some (.ref o1)))
    (n_o2 : PySem.W.nsIn K mainGlobals "NotApart" = some (some (.ref o2)))
    (n_o3 : PySem.W.nsIn K mainGlobals "NotOneWay" = some (some (.ref o3)))
    (n_o4 : PySem.W.nsIn K mainGlobals "NothingToUndo" = some (some (.ref o4)))
    (n_o5 : PySem.W.nsIn K mainGlobals "TooMany" = some (some (.ref o5)))
    (n_o6 : PySem.W.nsIn K mainGlobals "Unreadable" = some (some (.ref o6)))
    (xT : K.lookup cT = some (excClassObj nmT qnT cT NAT bsT [.ref cW, .type "ValueError", .type "Exception", .type "BaseException", .type "object"] true snT subT abT colT ddT r0T r1T r2T r3T r5T "ValueError.__new__"))
    (saT : PySem.W.findIn K (.ref cT) "__setattr__" = some (some (.builtin "object.__setattr__")))
    (exT : PySem.W.subIn K (.ref cT) (.type "BaseException") = some true)
    (tyT : PySem.W.typeIn K (.ref cT) = some (.type "type"))
    (kpT : PySem.W.keepIn K (.ref cT) = true)
    (nvT : PySem.W.findIn K (.ref cT) "value" = some none)
    (gaT : PySem.W.findIn K (.ref cT) "__getattribute__" = some (some (.builtin "BaseException.__getattribute__")))
    (ggT : PySem.W.findIn K (.ref cT) "__getattr__" = some none)
    (hdT : PySem.W.hasDictIn K cT = true)
    (haT : PySem.W.findIn K (.ref cT) "__class__" = some (some (.builtin "object.__class__")))
    (hmT : PySem.W.mroIn K cT (.type "object") = some true)
    (wST : PySem.W.subIn K (.ref cT) (.ref cW) = some true)
    (vST : PySem.W.subIn K (.ref cT) (.type "ValueError") = some true)
    (qcT : PySem.W.isClsIn K cT = true)
    (aiT : PySem.W.findIn K (.ref cT) "__init__" = some (some (.ref f20)))
    (uT1 : PySem.W.subIn K (.ref cT) (.ref o1) = some false)
    (neT1 : cT ≠ o1)
    (uT2 : PySem.W.subIn K (.ref cT) (.ref o2) = some false)
    (neT2 : cT ≠ o2)
    (uT3 : PySem.W.subIn K (.ref cT) (.ref o3) = some false)
    (neT3 : cT ≠ o3)
    (uT4 : PySem.W.subIn K (.ref cT) (.ref o4) = some false)
    (neT4 : cT ≠ o4)
    (uT5 : PySem.W.subIn K (.ref cT) (.ref o5) = some false)
    (neT5 : cT ≠ o5)
    (uT6 : PySem.W.subIn K (.ref cT) (.ref o6) = some false)
    (neT6 : cT ≠ o6)
    (uTN : PySem.W.subIn K (.ref cT) (.ref cN) = some false)
    (neTN : cT ≠ cN)
    (uTR : PySem.W.subIn K (.ref cT) (.ref cR) = some false)
    (neTR : cT ≠ cR)
    (xN : K.lookup cN = some (excClassObj nmN qnN cN NAN bsN [.ref cW, .type "ValueError", .type "Exception", .type "BaseException", .type "object"] true snN subN abN colN ddN r0N r1N r2N r3N r5N "ValueError.__new__"))
    (saN : PySem.W.findIn K (.ref cN) "__setattr__" = some (some (.builtin "object.__setattr__")))
    (exN : PySem.W.subIn K (.ref cN) (.type "BaseException") = some true)
    (tyN : PySem.W.typeIn K (.ref cN) = some (.type "type"))
    (kpN : PySem.W.keepIn K (.ref cN) = true)
    (nvN : PySem.W.findIn K (.ref cN) "value" = some none)
    (gaN : PySem.W.findIn K (.ref cN) "__getattribute__" = some (some (.builtin "BaseException.__getattribute__")))
    (ggN : PySem.W.findIn K (.ref cN) "__getattr__" = some none)
    (hdN : PySem.W.hasDictIn K cN = true)
    (haN : PySem.W.findIn K (.ref cN) "__class__" = some (some (.builtin "object.__class__")))
    (hmN : PySem.W.mroIn K cN (.type "object") = some true)
    (wSN : PySem.W.subIn K (.ref cN) (.ref cW) = some true)
    (vSN : PySem.W.subIn K (.ref cN) (.type "ValueError") = some true)
    (qcN : PySem.W.isClsIn K cN = true)
    (aiN : PySem.W.findIn K (.ref cN) "__init__" = some (some (.ref f20)))
    (uN1 : PySem.W.subIn K (.ref cN) (.ref o1) = some false)
    (neN1 : cN ≠ o1)
    (uN2 : PySem.W.subIn K (.ref cN) (.ref o2) = some false)
    (neN2 : cN ≠ o2)
    (uN3 : PySem.W.subIn K (.ref cN) (.ref o3) = some false)
    (neN3 : cN ≠ o3)
    (uN4 : PySem.W.subIn K (.ref cN) (.ref o4) = some false)
    (neN4 : cN ≠ o4)
    (uN5 : PySem.W.subIn K (.ref cN) (.ref o5) = some false)
    (neN5 : cN ≠ o5)
    (uN6 : PySem.W.subIn K (.ref cN) (.ref o6) = some false)
    (neN6 : cN ≠ o6)
    (uNT : PySem.W.subIn K (.ref cN) (.ref cT) = some false)
    (neNT : cN ≠ cT)
    (uNR : PySem.W.subIn K (.ref cN) (.ref cR) = some false)
    (neNR : cN ≠ cR)
    (xR : K.lookup cR = some (excClassObj nmR qnR cR NAR bsR [.ref cW, .type "ValueError", .type "Exception", .type "BaseException", .type "object"] true snR subR abR colR ddR r0R r1R r2R r3R r5R "ValueError.__new__"))
    (saR : PySem.W.findIn K (.ref cR) "__setattr__" = some (some (.builtin "object.__setattr__")))
    (exR : PySem.W.subIn K (.ref cR) (.type "BaseException") = some true)
    (tyR : PySem.W.typeIn K (.ref cR) = some (.type "type"))
    (kpR : PySem.W.keepIn K (.ref cR) = true)
    (nvR : PySem.W.findIn K (.ref cR) "value" = some none)
    (gaR : PySem.W.findIn K (.ref cR) "__getattribute__" = some (some (.builtin "BaseException.__getattribute__")))
    (ggR : PySem.W.findIn K (.ref cR) "__getattr__" = some none)
    (hdR : PySem.W.hasDictIn K cR = true)
    (haR : PySem.W.findIn K (.ref cR) "__class__" = some (some (.builtin "object.__class__")))
    (hmR : PySem.W.mroIn K cR (.type "object") = some true)
    (wSR : PySem.W.subIn K (.ref cR) (.ref cW) = some true)
    (vSR : PySem.W.subIn K (.ref cR) (.type "ValueError") = some true)
    (qcR : PySem.W.isClsIn K cR = true)
    (uR1 : PySem.W.subIn K (.ref cR) (.ref o1) = some false)
    (neR1 : cR ≠ o1)
    (uR2 : PySem.W.subIn K (.ref cR) (.ref o2) = some false)
    (neR2 : cR ≠ o2)
    (uR3 : PySem.W.subIn K (.ref cR) (.ref o3) = some false)
    (neR3 : cR ≠ o3)
    (uR4 : PySem.W.subIn K (.ref cR) (.ref o4) = some false)
    (neR4 : cR ≠ o4)
    (uR5 : PySem.W.subIn K (.ref cR) (.ref o5) = some false)
    (neR5 : cR ≠ o5)
    (uR6 : PySem.W.subIn K (.ref cR) (.ref o6) = some false)
    (neR6 : cR ≠ o6)
    (uRT : PySem.W.subIn K (.ref cR) (.ref cT) = some false)
    (neRT : cR ≠ cT)
    (uRN : PySem.W.subIn K (.ref cR) (.ref cN) = some false)
    (neRN : cR ≠ cN)
    (wB : PySem.W.subIn K (.ref cW) (.type "BaseException") = some true)
    (wD : PySem.W.hasDictIn K cW = true)
    (wT : PySem.W.typeIn K (.ref cW) = some (.type "type"))
    (q1 : PySem.W.isClsIn K o1 = true)
    (y1 : PySem.W.typeIn K (.ref o1) = some (.type "type"))
    (q2 : PySem.W.isClsIn K o2 = true)
    (y2 : PySem.W.typeIn K (.ref o2) = some (.type "type"))
    (q3 : PySem.W.isClsIn K o3 = true)
    (y3 : PySem.W.typeIn K (.ref o3) = some (.type "type"))
    (q4 : PySem.W.isClsIn K o4 = true)
    (y4 : PySem.W.typeIn K (.ref o4) = some (.type "type"))
    (q5 : PySem.W.isClsIn K o5 = true)
    (y5 : PySem.W.typeIn K (.ref o5) = some (.type "type"))
    (q6 : PySem.W.isClsIn K o6 = true)
    (y6 : PySem.W.typeIn K (.ref o6) = some (.type "type"))
    (a20 : PySem.W.findIn K (.ref cR) "__init__" = some (some (.ref f20))) (t20 : PySem.W.typeIn K (.ref f20) = some (.type "function")) (l20 : K.lookup f20 = some ⟨oc20, od20, .func (PySem.W.fnOf "__init__" "WordError.__init__" (defArgs sEInit) (defBody sEInit) (defScope sEInit) .none kV20 dc20 pm20 an20 cd20 ct20), sl20⟩) (c20 : PySem.W.codeIn K cd20 "WordError.__init__" = true) (k20 : PySem.W.keepIn K (.ref f20) = true) :
    ∃ fd : FuncData, (∀ (s : Shared) (v : Value), BindsTo s fd ⟨[v], []⟩ [("script", v)]) ∧ ∀ base : Heap, K.In base → base.Ns mainGlobals mg → FnG l.prog w K mg base CX0 15 fa fd ["script"] (spLaw K) := by
  have e := hfa.symm.trans (PySem.W.mg_of X G a11)
  cases e
  have F1 := fun_mk (st := sIsLetters) l1 c1 k1
  have F2 := fun_mk (st := sIsWord) l2 c2 k2
  have F3 := fun_mk (st := sCheckWords) l3 c3 k3
  have F4 := fun_mk (st := sCheckReading) l4 c4 k4
  have F5 := fun_mk (st := sJoined) l5 c5 k5
  have F6 := fun_mk (st := sPool) l6 c6 k6
  have F7 := fun_mk (st := sDraw) l7 c7 k7
  have F8 := fun_mk (st := sWord) l8 c8 k8
  have F9 := fun_mk (st := sLot) l9 c9 k9
  have F21 := fun_mk (st := sCheckText) l21 c21 k21
  have F22 := fun_mk (st := sWaysWith) l22 c22 k22
  have F23 := fun_mk (st := sAllWays) l23 c23 k23
  have F24 := fun_mk (st := sCount) l24 c24 k24
  have F25 := fun_mk (st := sIsText) l25 c25 k25
  have F26 := fun_mk (st := sNth) l26 c26 k26
  have F27 := fun_mk (st := sWordAt) l27 c27 k27
  have F28 := fun_mk (st := sIndex) l28 c28 k28
  have F15 := fun_mk (st := sRun) l15 c15 k15
  have F30 := fun_mk (st := sAllReadings) l30 c30 k30
  have F32 := fun_mk (st := sFlagged) l32 c32 k32
  have F33 := fun_mk (st := sCaught) l33 c33 k33
  have F10 := fun_mk (st := sFits) l10 c10 k10
  have F11 := fun_mk (st := sLaw) l11 c11 k11
  have F12 := fun_mk (st := sSInit) l12 c12 k12
  have F14 := fun_mk (st := sSWords) l14 c14 k14
  have F13 := fun_mk (st := sSEq) l13 c13 k13
  have F20 := fun_mk (st := sEInit) l20 c20 k20
  have b1 := F1.binds (ps := ["text"]) fun _ _ _ _ _ _ us hl => match us, hl with | [_], _ => rfl
  have b2 := F2.binds (ps := ["text"]) fun _ _ _ _ _ _ us hl => match us, hl with | [_], _ => rfl
  have b3 := F3.binds (ps := ["words"]) fun _ _ _ _ _ _ us hl => match us, hl with | [_], _ => rfl
  have b4 := F4.binds (ps := ["stock", "reading"]) fun _ _ _ _ _ _ us hl => match us, hl with | [_, _], _ => rfl
  have b5 := F5.binds (ps := ["stock", "reading"]) fun _ _ _ _ _ _ us hl => match us, hl with | [_, _], _ => rfl
  have b6 := F6.binds (ps := ["script", "spot"]) fun _ _ _ _ _ _ us hl => match us, hl with | [_, _], _ => rfl
  have b7 := F7.binds (ps := ["pool", "span"]) fun _ _ _ _ _ _ us hl => match us, hl with | [_, _], _ => rfl
  have b8 := F8.binds (ps := ["pool", "widest", "signs"]) fun _ _ _ _ _ _ us hl => match us, hl with | [_, _, _], _ => rfl
  have b9 := F9.binds (ps := ["pool", "many", "widest"]) fun _ _ _ _ _ _ us hl => match us, hl with | [_, _, _], _ => rfl
  have b21 := F21.binds (ps := ["text"]) fun _ _ _ _ _ _ us hl => match us, hl with | [_], _ => rfl
  have b22 := F22.binds (ps := ["word", "text", "place", "ways"]) fun _ _ _ _ _ _ us hl => match us, hl with | [_, _, _, _], _ => rfl
  have b23 := F23.binds (ps := ["words", "text"]) fun _ _ _ _ _ _ us hl => match us, hl with | [_, _], _ => rfl
  have b24 := F24.binds (ps := ["stock", "text"]) fun _ _ _ _ _ _ us hl => match us, hl with | [_, _], _ => rfl
  have b25 := F25.binds (ps := ["stock", "text"]) fun _ _ _ _ _ _ us hl => match us, hl with | [_, _], _ => rfl
  have b26 := F26.binds (ps := ["stock", "text", "index"]) fun _ _ _ _ _ _ us hl => match us, hl with | [_, _, _], _ => rfl
  have b27 := F27.binds (ps := ["words", "text", "place", "ways", "index"]) fun _ _ _ _ _ _ us hl => match us, hl with | [_, _, _, _, _], _ => rfl
  have b28 := F28.binds (ps := ["stock", "reading"]) fun _ _ _ _ _ _ us hl => match us, hl with | [_, _], _ => rfl
  have b15 := F15.binds (ps := ["lot", "row"]) fun _ _ _ _ _ _ us hl => match us, hl with | [_, _], _ => rfl
  have b30 := F30.binds (ps := ["lot", "line"]) fun _ _ _ _ _ _ us hl => match us, hl with | [_, _], _ => rfl
  have b32 := F32.binds (ps := ["e"]) fun _ _ _ _ _ _ us hl => match us, hl with | [_], _ => rfl
  have b33 := F33.binds (ps := ["way", "made", "thing", "spot"]) fun _ _ _ _ _ _ us hl => match us, hl with | [_, _, _, _], _ => rfl
  have b10 := F10.binds (ps := ["pool"]) fun _ _ _ _ _ _ us hl => match us, hl with | [_], _ => rfl
  have b12 := F12.binds (ps := ["self", "words"]) fun _ _ _ _ _ _ us hl => match us, hl with | [_, _], _ => rfl
  have b14 := F14.binds (ps := ["self"]) fun _ _ _ _ _ _ us hl => match us, hl with | [_], _ => rfl
  have b20 := F20.binds (ps := ["self", "value"]) fun _ _ _ _ _ _ us hl => match us, hl with | [_, _], _ => rfl
  have B : Bu mg := ⟨PySem.W.mg_none_of X G z_len, PySem.W.mg_none_of X G z_max, PySem.W.mg_none_of X G z_min, PySem.W.mg_none_of X G z_abs, PySem.W.mg_none_of X G z_int, PySem.W.mg_none_of X G z_range⟩
  have T : StkC K mg C f12 f13 f14 := ⟨⟨pg, hd, po, sa⟩, nW, PySem.W.mg_of X G aC, ⟨mk, a12, i12, kc⟩, ⟨⟨_, _, _, _, _, _, _, _, _, _, _, _, _, _, xC⟩, a13, ne, i13⟩, ⟨pW, pa, pget, ptk, ⟨_, prc⟩⟩, ha, hn, htk, hm, ki⟩
  have BX : BuX mg := ⟨B, PySem.W.mg_none_of X G z_repr⟩
  have kbC : KBinds K _ ["stock", "text"] ["text", "stock"] gTurn gTurn := kbinds_of F24 gTurn gTurn gTurn_rel fun _ _ _ _ _ _ us ws hl => by
    obtain ⟨rfl, x, y, rfl⟩ := gTurn_two hl
    rfl
  have kbI : KBinds K _ ["stock", "text"] ["text", "stock"] gTurn gTurn := kbinds_of F25 gTurn gTurn gTurn_rel fun _ _ _ _ _ _ us ws hl => by
    obtain ⟨rfl, x, y, rfl⟩ := gTurn_two hl
    rfl
  have kbN : KBinds K _ ["stock", "text", "index"] ["index", "text", "stock"] gTurn3 gTurn3 := kbinds_of F26 gTurn3 gTurn3 gTurn3_rel fun _ _ _ _ _ _ us ws hl => by
    obtain ⟨rfl, x, y, z, rfl⟩ := gTurn_three hl
    rfl
  have kbR : KBinds K _ ["stock", "reading"] ["reading", "stock"] gTurn gTurn := kbinds_of F28 gTurn gTurn gTurn_rel fun _ _ _ _ _ _ us ws hl => by
    obtain ⟨rfl, x, y, rfl⟩ := gTurn_two hl
    rfl
  have CT : ErrC K mg "InvalidText" cT f20 := ⟨⟨⟨_, _, _, _, _, _, _, _, _, _, _, _, _, _, _, xT, by show PySem.HandSPX.refsVE [.type "ValueError", .type "Exception", .type "BaseException", .type "object"] = true; decide +kernel⟩, saT, exT, tyT, kpT⟩, PySem.W.mg_of X G n_cT, nvT, aiT, t20⟩
  have CN : ErrC K mg "InvalidNumber" cN f20 := ⟨⟨⟨_, _, _, _, _, _, _, _, _, _, _, _, _, _, _, xN, by show PySem.HandSPX.refsVE [.type "ValueError", .type "Exception", .type "BaseException", .type "object"] = true; decide +kernel⟩, saN, exN, tyN, kpN⟩, PySem.W.mg_of X G n_cN, nvN, aiN, t20⟩
  have CR : ErrC K mg "InvalidReading" cR f20 := ⟨⟨⟨_, _, _, _, _, _, _, _, _, _, _, _, _, _, _, xR, by show PySem.HandSPX.refsVE [.type "ValueError", .type "Exception", .type "BaseException", .type "object"] = true; decide +kernel⟩, saR, exR, tyR, kpR⟩, PySem.W.mg_of X G n_cR, nvR, a20, t20⟩
  have TT : Tell K cW cT cN cR o1 o2 o3 o4 o5 o6 cT true false false := ⟨⟨gaT, ggT, exT, hdT, haT, hn, htk, hmT⟩, ⟨gaT, ggT, exT, hdT⟩, nvT, PySem.W.exm_ref wB wD wT wST, kit_any (fun c hc => by
      simp only [List.mem_cons, List.not_mem_nil, or_false] at hc
      rcases hc with rfl | rfl | rfl | rfl | rfl | rfl
      · exact kit_ref q1 y1 uT1 (.inr neT1)
      · exact kit_ref q2 y2 uT2 (.inr neT2)
      · exact kit_ref q3 y3 uT3 (.inr neT3)
      · exact kit_ref q4 y4 uT4 (.inr neT4)
      · exact kit_ref q5 y5 uT5 (.inr neT5)
      · exact kit_ref q6 y6 uT6 (.inr neT6)), kit_VE vST, kit_self, kit_ref qcN tyN uTN (.inr neTN), kit_ref qcR tyR uTR (.inr neTR)⟩
  have TN : Tell K cW cT cN cR o1 o2 o3 o4 o5 o6 cN false true false := ⟨⟨gaN, ggN, exN, hdN, haN, hn, htk, hmN⟩, ⟨gaN, ggN, exN, hdN⟩, nvN, PySem.W.exm_ref wB wD wT wSN, kit_any (fun c hc => by
      simp only [List.mem_cons, List.not_mem_nil, or_false] at hc
      rcases hc with rfl | rfl | rfl | rfl | rfl | rfl
      · exact kit_ref q1 y1 uN1 (.inr neN1)
      · exact kit_ref q2 y2 uN2 (.inr neN2)
      · exact kit_ref q3 y3 uN3 (.inr neN3)
      · exact kit_ref q4 y4 uN4 (.inr neN4)
      · exact kit_ref q5 y5 uN5 (.inr neN5)
      · exact kit_ref q6 y6 uN6 (.inr neN6)), kit_VE vSN, kit_ref qcT tyT uNT (.inr neNT), kit_self, kit_ref qcR tyR uNR (.inr neNR)⟩
  have TR : Tell K cW cT cN cR o1 o2 o3 o4 o5 o6 cR false false true := ⟨⟨gaR, ggR, exR, hdR, haR, hn, htk, hmR⟩, ⟨gaR, ggR, exR, hdR⟩, nvR, PySem.W.exm_ref wB wD wT wSR, kit_any (fun c hc => by
      simp only [List.mem_cons, List.not_mem_nil, or_false] at hc
      rcases hc with rfl | rfl | rfl | rfl | rfl | rfl
      · exact kit_ref q1 y1 uR1 (.inr neR1)
      · exact kit_ref q2 y2 uR2 (.inr neR2)
      · exact kit_ref q3 y3 uR3 (.inr neR3)
      · exact kit_ref q4 y4 uR4 (.inr neR4)
      · exact kit_ref q5 y5 uR5 (.inr neR5)
      · exact kit_ref q6 y6 uR6 (.inr neR6)), kit_VE vSR, kit_ref qcT tyT uRT (.inr neRT), kit_ref qcN tyN uRN (.inr neRN), kit_self⟩
  have KN : Kinds mg cW cT cN cR o1 o2 o3 o4 o5 o6 := ⟨PySem.W.mg_of X G n_cW, PySem.W.mg_of X G n_cT, PySem.W.mg_of X G n_cN, PySem.W.mg_of X G n_cR, PySem.W.mg_of X G n_o1, PySem.W.mg_of X G n_o2, PySem.W.mg_of X G n_o3, PySem.W.mg_of X G n_o4, PySem.W.mg_of X G n_o5, PySem.W.mg_of X G n_o6, PySem.W.mg_none_of X G z_ValueError⟩
  refine ⟨PySem.W.fnOf "law" "law" (defArgs sLaw) (defBody sLaw) (defScope sLaw) .none kV11 dc11 pm11 an11 cd11 ct11, fun s v => .of_eq rfl, fun base _ _ => ?_⟩
  have G1 : FnOk l.prog w K mg base CX0 1 f1 _ ["text"] spIsLetters := ok_isLetters F1 (PySem.W.mg_of X G vL) (PySem.W.mg_none_of X G z_all)
  have G2 : FnOk l.prog w K mg base CX0 2 f2 _ ["text"] spIsWord := ok_isWord F2 G1 b1 k1 (PySem.W.mg_of X G a1) (PySem.W.mg_of X G vM) B.len
  have G3 : FnOk l.prog w K mg base CX0 3 f3 _ ["words"] (spCheckWords K) := ok_checkWords F3 G2 b2 k2 (PySem.W.mg_of X G a2) (PySem.W.mg_of X G vN) B.len (PySem.W.mg_none_of X G z_set)
  have G12 : FnOk l.prog w K mg base CX0 4 f12 _ ["self", "words"] (spSInit K C) := ok_sinit F12 T G3 b3 k3 (PySem.W.mg_of X G a3) (PySem.W.mg_none_of X G z_tuple)
  have G14 : FnOk l.prog w K mg base CX0 1 f14 _ ["self"] (spSWords C) := ok_swords F14 T (PySem.W.mg_none_of X G z_list)
  have G20 : FnOk l.prog w K mg base CX0 1 f20 _ ["self", "value"] (spEInit K) := ok_einit F20
  have ET : ErrX l.prog w K mg base "InvalidText" cT f20 _ := ⟨CT, G20, b20⟩
  have EN : ErrX l.prog w K mg base "InvalidNumber" cN f20 _ := ⟨CN, G20, b20⟩
  have G4 : FnOk l.prog w K mg base (L2.CX l.prog w) 3 f4 _ ["stock", "reading"] (spCheckReading K C cR) := ok_checkReading F4 T CR G20 b20 G14 b14 B.len
  have G5 : FnOk l.prog w K mg base (L2.CX l.prog w) 4 f5 _ ["stock", "reading"] (spJoined K C cR) := ok_joined F5 T G4 b4 k4 (PySem.W.mg_of X G a4) G14 b14
  have G6 : FnOk l.prog w K mg base CX0 1 f6 _ ["script", "spot"] (spPool K) := ok_pool F6 B
  have G7 : FnOk l.prog w K mg base CX0 1 f7 _ ["pool", "span"] spDraw := ok_draw F7 B
  have G8 : FnOk l.prog w K mg base CX0 2 f8 _ ["pool", "widest", "signs"] spWord := ok_word F8 B G7 b7 k7 (PySem.W.mg_of X G a7)
  have G9 : FnOk l.prog w K mg base CX0 3 f9 _ ["pool", "many", "widest"] spLot := ok_lot F9 B G7 b7 k7 (PySem.W.mg_of X G a7) G8 b8 k8 (PySem.W.mg_of X G a8)
  have G21 : FnOk l.prog w K mg base (L2.CX l.prog w) 3 f21 _ ["text"] (spCheckTextX cT) := ok_checkTextX F21 ET ⟨G1, b1, k1, PySem.W.mg_of X G a1⟩
  have G22 : FnOk l.prog w K mg base CX0 1 f22 _ ["word", "text", "place", "ways"] (spWaysWith K) := ok_waysWith F22 B.len
  have G23 : FnOk l.prog w K mg base CX0 2 f23 _ ["words", "text"] (spAllWays K) := ok_allWays F23 G22 b22 k22 (PySem.W.mg_of X G a22) B.len B.range (PySem.W.mg_none_of X G z_reversed) (PySem.W.mg_none_of X G z_sum)
  have G24 : FnOk l.prog w K mg base (L2.CX l.prog w) 4 f24 _ ["stock", "text"] (spCountX C cT) := ok_countX F24 T G14 b14 ⟨G21, b21, k21, PySem.W.mg_of X G a21⟩ ⟨G23, b23, k23, PySem.W.mg_of X G a23⟩
  have G25 : FnOk l.prog w K mg base (L2.CX l.prog w) 5 f25 _ ["stock", "text"] (spIsTextX C cT) := ok_isTextX F25 ⟨G24, b24, k24, PySem.W.mg_of X G a24⟩
  have G27 : FnOk l.prog w K mg base CX0 2 f27 _ ["words", "text", "place", "ways", "index"] (spWordAt K) := ok_wordAt F27 G22 b22 k22 (PySem.W.mg_of X G a22)
  have G26 : FnOk l.prog w K mg base (L2.CX l.prog w) 4 f26 _ ["stock", "text", "index"] (spNthX C cT cN) := ok_nthX F26 B T G14 b14 EN ⟨G21, b21, k21, PySem.W.mg_of X G a21⟩ ⟨G23, b23, k23, PySem.W.mg_of X G a23⟩ ⟨G27, b27, k27, PySem.W.mg_of X G a27⟩
  have G28 : FnOk l.prog w K mg base (L2.CX l.prog w) 5 f28 _ ["stock", "reading"] (spIndexX K C cR) := ok_indexX F28 B (PySem.W.mg_none_of X G z_sum) T G14 b14 ⟨G5, b5, k5, PySem.W.mg_of X G a5⟩ ⟨G23, b23, k23, PySem.W.mg_of X G a23⟩ ⟨G22, b22, k22, PySem.W.mg_of X G a22⟩
  have G15 : FnOk l.prog w K mg base CX0 1 f15 _ ["lot", "row"] (spRun K) := ok_run F15
  have G30 : FnOk l.prog w K mg base CX0 13 f30 _ ["lot", "line"] (spAll K 12) := ok_all F30 B (PySem.W.mg_none_of X G z_enumerate) b30 k30 (PySem.W.mg_of X G a30) 12
  have G32 : FnP l.prog w K mg base 1 f32 _ ["e"] (spFlag K cW cT cN cR o1 o2 o3 o4 o5 o6) := ok_flagged F32 KN (PySem.W.mg_none_of X G z_isinstance)
  have G33 : FnOk l.prog w K mg base CX0 6 f33 _ ["way", "made", "thing", "spot"] (spCaught K C) := ok_caught F33 KN TT TN TR G32 b32 k32 (PySem.W.mg_of X G a32) ⟨G24, b24, k24, PySem.W.mg_of X G a24⟩ kbC ⟨G25, b25, k25, PySem.W.mg_of X G a25⟩ kbI ⟨G26, b26, k26, PySem.W.mg_of X G a26⟩ kbN ⟨G28, b28, k28, PySem.W.mg_of X G a28⟩ kbR
  have G10 : FnG l.prog w K mg base CX0 14 f10 _ ["pool"] spFits := ok_fits F10 BX T G12 b12 ⟨G7, b7, k7, PySem.W.mg_of X G a7⟩ ⟨G9, b9, k9, PySem.W.mg_of X G a9⟩ ⟨G15, b15, k15, PySem.W.mg_of X G a15⟩ ⟨G30, b30, k30, PySem.W.mg_of X G a30⟩ ⟨G33, b33, k33, PySem.W.mg_of X G a33⟩
  exact ok_law F11 B ⟨G6, b6, k6, PySem.W.mg_of X G a6⟩ G10 b10 k10 (PySem.W.mg_of X G a10)
theorem walk {l : PySem.W.OpenLaw} {q : Program} {loose : List Str} {XP : (Str → Option Value) → Heap → Prop} {YP : World → Heap → Prop} {d : DefRec} {K : Params → PySem.W.Frag} (hn : l.most = some 63) (hdf : d.params.defaults = [])
    (hY : ∀ (w : World) (h : Heap), YP w h → (K w.params).In h)
    (F : ∀ (w : World) (mg : Str → Option Value) (fa : Addr) (h : Heap), (K w.params).In h → h.Ns mainGlobals mg → mg d.name = some (.ref fa) →
      ∃ fd : FuncData, (∀ (s : Shared) (u : Value), BindsTo s fd ⟨[u], []⟩ [("script", u)]) ∧ ∀ base : Heap, (K w.params).In base → base.Ns mainGlobals mg → FnG l.prog w (K w.params) mg base CX0 15 fa fd ["script"] (spLaw (K w.params))) :
    PySem.W.WalkO q loose XP YP l.row.toRowW d [] (fun f vs => PySem.call f vs) :=
  walk_G (n := 63) (k := 15) (x := "script") (sp := fun w => spLaw (K w.params)) hn (by decide) hdf ⟨rfl, by decide, by decide⟩ hY F (fun _ _ a ns hl _ hS => ⟨a, ns, rfl, hS, hl, fun _ => rfl⟩)
end WH
open PySem PySem.W PyProof.Rows
set_option maxRecDepth 100000 in
set_option maxHeartbeats 0 in
theorem PySem.Challenge.cw_wordhulls_k08_errors_of_readings_holds : PySem.Challenge.rw_wordhulls_k08_errors_of_readings.Holds := by
  w_on; o_law; k_head; (case hw => w_witness2)
  k_fill
  refine WH.walk (l := PySem.Challenge.rw_wordhulls_k08_errors_of_readings) rfl rfl (fun w h Y => PySem.W.kIn_of Y) ?F
  case F =>
    intro w mg fa h KX G hmg
    refine' WH.all_mk KX G hmg ?a1 ?l1 ?c1 ?k1 ?a2 ?l2 ?c2 ?k2 ?a3 ?l3 ?c3 ?k3 ?a4 ?l4 ?c4 ?k4 ?a5 ?l5 ?c5 ?k5 ?a6 ?l6 ?c6 ?k6 ?a7 ?l7 ?c7 ?k7 ?a8 ?l8 ?c8 ?k8 ?a9 ?l9 ?c9 ?k9 ?a21 ?l21 ?c21 ?k21 ?a22 ?l22 ?c22 ?k22 ?a23 ?l23 ?c23 ?k23 ?a24 ?l24 ?c24 ?k24 ?a25 ?l25 ?c25 ?k25 ?a26 ?l26 ?c26 ?k26 ?a27 ?l27 ?c27 ?k27 ?a28 ?l28 ?c28 ?k28 ?a15 ?l15 ?c15 ?k15 ?a30 ?l30 ?c30 ?k30 ?a32 ?l32 ?c32 ?k32 ?a33 ?l33 ?c33 ?k33 ?a10 ?l10 ?c10 ?k10 ?a11 ?l11 ?c11 ?k11 ?a12 ?i12 ?l12 ?c12 ?k12 ?l14 ?c14 ?k14 ?a13 ?i13 ?l13 ?c13 ?k13 ?vL ?vM ?vN ?z_len ?z_max ?z_min ?z_abs ?z_int ?z_range ?z_all ?z_set ?z_tuple ?z_list ?z_isinstance ?z_repr ?z_ValueError ?z_sum ?z_enumerate ?z_reversed ?aC ?pg ?hd ?po ?sa ?mk ?kc ?nW ?xC ?ne ?pa ?pget ?ptk ?prc ?ha ?hn ?htk ?hm ?ki ?n_cW ?n_cT ?n_cN ?n_cR ?n_o1 ?n_o2 ?n_o3 ?n_o4 ?n_o5 ?n_o6 ?xT ?saT ?exT ?tyT ?kpT ?nvT ?gaT ?ggT ?hdT ?haT ?hmT ?wST ?vST ?qcT ?aiT ?uT1 ?neT1 ?uT2 ?neT2 ?uT3 ?neT3 ?uT4 ?neT4 ?uT5 ?neT5 ?uT6 ?neT6 ?uTN ?neTN ?uTR ?neTR ?xN ?saN ?exN ?tyN ?kpN ?nvN ?gaN ?ggN ?hdN ?haN ?hmN ?wSN ?vSN ?qcN ?aiN ?uN1 ?neN1 ?uN2 ?neN2 ?uN3 ?neN3 ?uN4 ?neN4 ?uN5 ?neN5 ?uN6 ?neN6 ?uNT ?neNT ?uNR ?neNR ?xR ?saR ?exR ?tyR ?kpR ?nvR ?gaR ?ggR ?hdR ?haR ?hmR ?wSR ?vSR ?qcR ?uR1 ?neR1 ?uR2 ?neR2 ?uR3 ?neR3 ?uR4 ?neR4 ?uR5 ?neR5 ?uR6 ?neR6 ?uRT ?neRT ?uRN ?neRN ?wB ?wD ?wT ?q1 ?y1 ?q2 ?y2 ?q3 ?y3 ?q4 ?y4 ?q5 ?y5 ?q6 ?y6 ?a20 ?t20 ?l20 ?c20 ?k20
    (case aC => k_is)
    (case pa => k_is)
    (case prc => k_is)
    (case n_cW => k_is)
    (case n_cT => k_is)
    (case n_cN => k_is)
    (case n_cR => k_is)
    (case n_o1 => k_is)
    (case n_o2 => k_is)
    (case n_o3 => k_is)
    (case n_o4 => k_is)
    (case n_o5 => k_is)
    (case n_o6 => k_is)
    (case a1 => k_is)
    (case l1 => k_is)
    (case c1 => k_is)
    (case k1 => k_is)
    (case a2 => k_is)
    (case l2 => k_is)
    (case c2 => k_is)
    (case k2 => k_is)
    (case a3 => k_is)
    (case l3 => k_is)
    (case c3 => k_is)
    (case k3 => k_is)
    (case a4 => k_is)
    (case l4 => k_is)
    (case c4 => k_is)
    (case k4 => k_is)
    (case a5 => k_is)
    (case l5 => k_is)
    (case c5 => k_is)
    (case k5 => k_is)
    (case a6 => k_is)
    (case l6 => k_is)
    (case c6 => k_is)
    (case k6 => k_is)
    (case a7 => k_is)
    (case l7 => k_is)
    (case c7 => k_is)
    (case k7 => k_is)
    (case a8 => k_is)
    (case l8 => k_is)
    (case c8 => k_is)
    (case k8 => k_is)
    (case a9 => k_is)
    (case l9 => k_is)
    (case c9 => k_is)
    (case k9 => k_is)
    (case a21 => k_is)
    (case l21 => k_is)
    (case c21 => k_is)
    (case k21 => k_is)
    (case a22 => k_is)
    (case l22 => k_is)
    (case c22 => k_is)
    (case k22 => k_is)
    (case a23 => k_is)
    (case l23 => k_is)
    (case c23 => k_is)
    (case k23 => k_is)
    (case a24 => k_is)
    (case l24 => k_is)
    (case c24 => k_is)
    (case k24 => k_is)
    (case a25 => k_is)
    (case l25 => k_is)
    (case c25 => k_is)
    (case k25 => k_is)
    (case a26 => k_is)
    (case l26 => k_is)
    (case c26 => k_is)
    (case k26 => k_is)
    (case a27 => k_is)
    (case l27 => k_is)
    (case c27 => k_is)
    (case k27 => k_is)
    (case a28 => k_is)
    (case l28 => k_is)
    (case c28 => k_is)
    (case k28 => k_is)
    (case a15 => k_is)
    (case l15 => k_is)
    (case c15 => k_is)
    (case k15 => k_is)
    (case a30 => k_is)
    (case l30 => k_is)
    (case c30 => k_is)
    (case k30 => k_is)
    (case a32 => k_is)
    (case l32 => k_is)
    (case c32 => k_is)
    (case k32 => k_is)
    (case a33 => k_is)
    (case l33 => k_is)
    (case c33 => k_is)
    (case k33 => k_is)
    (case a10 => k_is)
    (case l10 => k_is)
    (case c10 => k_is)
    (case k10 => k_is)
    (case a11 => k_is)
    (case l11 => k_is)
    (case c11 => k_is)
    (case k11 => k_is)
    (case a12 => k_is)
    (case i12 => k_is)
    (case l12 => k_is)
    (case c12 => k_is)
    (case k12 => k_is)
    (case l14 => k_is)
    (case c14 => k_is)
    (case k14 => k_is)
    (case a13 => k_is)
    (case i13 => k_is)
    (case l13 => k_is)
    (case c13 => k_is)
    (case k13 => k_is)
    (case vL => k_is)
    (case vM => k_is)
    (case vN => k_is)
    (case z_len => k_is)
    (case z_max => k_is)
    (case z_min => k_is)
    (case z_abs => k_is)
    (case z_int => k_is)
    (case z_range => k_is)
    (case z_all => k_is)
    (case z_set => k_is)
    (case z_tuple => k_is)
    (case z_list => k_is)
    (case z_isinstance => k_is)
    (case z_repr => k_is)
    (case z_ValueError => k_is)
    (case z_sum => k_is)
    (case z_enumerate => k_is)
    (case z_reversed => k_is)
    (case pg => k_is)
    (case hd => k_is)
    (case po => k_is)
    (case sa => k_is)
    (case mk => k_is)
    (case kc => k_is)
    (case nW => k_is)
    (case xC => k_is)
    (case ne => k_is)
    (case pget => k_is)
    (case ptk => k_is)
    (case ha => k_is)
    (case hn => k_is)
    (case htk => k_is)
    (case hm => k_is)
    (case ki => first | rfl | k_is)
    (case xT => k_is)
    (case saT => k_is)
    (case exT => k_is)
    (case tyT => k_is)
    (case kpT => k_is)
    (case nvT => k_is)
    (case gaT => k_is)
    (case ggT => k_is)
    (case hdT => k_is)
    (case haT => k_is)
    (case hmT => k_is)
    (case wST => k_is)
    (case vST => k_is)
    (case qcT => k_is)
    (case aiT => k_is)
    (case uT1 => k_is)
    (case neT1 => decide)
    (case uT2 => k_is)
    (case neT2 => decide)
    (case uT3 => k_is)
    (case neT3 => decide)
    (case uT4 => k_is)
    (case neT4 => decide)
    (case uT5 => k_is)
    (case neT5 => decide)
    (case uT6 => k_is)
    (case neT6 => decide)
    (case uTN => k_is)
    (case neTN => decide)
    (case uTR => k_is)
    (case neTR => decide)
    (case xN => k_is)
    (case saN => k_is)
    (case exN => k_is)
    (case tyN => k_is)
    (case kpN => k_is)
    (case nvN => k_is)
    (case gaN => k_is)
    (case ggN => k_is)
    (case hdN => k_is)
    (case haN => k_is)
    (case hmN => k_is)
    (case wSN => k_is)
    (case vSN => k_is)
    (case qcN => k_is)
    (case aiN => k_is)
    (case uN1 => k_is)
    (case neN1 => decide)
    (case uN2 => k_is)
    (case neN2 => decide)
    (case uN3 => k_is)
    (case neN3 => decide)
    (case uN4 => k_is)
    (case neN4 => decide)
    (case uN5 => k_is)
    (case neN5 => decide)
    (case uN6 => k_is)
    (case neN6 => decide)
    (case uNT => k_is)
    (case neNT => decide)
    (case uNR => k_is)
    (case neNR => decide)
    (case xR => k_is)
    (case saR => k_is)
    (case exR => k_is)
    (case tyR => k_is)
    (case kpR => k_is)
    (case nvR => k_is)
    (case gaR => k_is)
    (case ggR => k_is)
    (case hdR => k_is)
    (case haR => k_is)
    (case hmR => k_is)
    (case wSR => k_is)
    (case vSR => k_is)
    (case qcR => k_is)
    (case uR1 => k_is)
    (case neR1 => decide)
    (case uR2 => k_is)
    (case neR2 => decide)
    (case uR3 => k_is)
    (case neR3 => decide)
    (case uR4 => k_is)
    (case neR4 => decide)
    (case uR5 => k_is)
    (case neR5 => decide)
    (case uR6 => k_is)
    (case neR6 => decide)
    (case uRT => k_is)
    (case neRT => decide)
    (case uRN => k_is)
    (case neRN => decide)
    (case wB => k_is)
    (case wD => k_is)
    (case wT => k_is)
    (case q1 => k_is)
    (case y1 => k_is)
    (case q2 => k_is)
    (case y2 => k_is)
    (case q3 => k_is)
    (case y3 => k_is)
    (case q4 => k_is)
    (case y4 => k_is)
    (case q5 => k_is)
    (case y5 => k_is)
    (case q6 => k_is)
    (case y6 => k_is)
    (case a20 => k_is)
    (case t20 => k_is)
    (case l20 => k_is)
    (case c20 => k_is)
    (case k20 => k_is)
