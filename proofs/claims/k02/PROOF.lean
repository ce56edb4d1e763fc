import PyProof.Rows.All
import Wide.All
import OpenK.AllK
import Wide.FinOn
import PySem.Challenge.RW_wordhulls_k02_stocks_as_passed
import HandS.ForMost
import HandS.Exc
import HandS.TryOnly
import HandS.ExcOwn
import HandS.WordsExc
import HandS.OwnEq
import HandS.Property
import HandS.MakeKw
import HandS.IsInst
import HandS.SetKeys
import HandS.ExcInit
import HandS.Wide
import HandS.Walk
import HandS.Steps
import PyProof.InstNe
import PyProof.ReprLen
import HandS.MakeKwOnly
import HandS.Style
set_option Elab.async false
set_option linter.all false
set_option maxRecDepth 100000
namespace WH
open PySem PySem.Spec PyProof.Rows L2
/-! a power of an int of less than a hundred thousand bits -/
def CPowW (i j : Int) : Prop := 0 ≤ j ∧ j ≤ 100 ∧ i.natAbs.log2 < 1000000
theorem CPowW.ok {i j : Int} (h : CPowW i j) : (Builtin.Int.intBits i : Int) * j ≤ 2 ^ 27 := by
  obtain ⟨h1, h2, h3⟩ := h
  have b : Builtin.Int.intBits i ≤ i.natAbs.log2 + 1 := by
    unfold Builtin.Int.intBits
    split <;> omega
  have e : (2 : Int) ^ 27 = 134217728 := by decide
  rw [e]
  have b2 : (Builtin.Int.intBits i : Int) ≤ 1000000 := by omega
  have := Int.mul_le_mul b2 h2 h1 (by decide)
  omega
theorem op_powW {X : Cx} : OpR X (binaryOp .Pow) (rI CPowW fun i j => .int (i ^ j.toNat)) := opI fun _ _ _ _ _ _ _ hc q => pow_int hc.1 hc.ok q
theorem log2_small {i : Int} {n : Nat} (h0 : 0 ≤ i) (h : i < 2 ^ n) (hn : n ≤ 1000000) (hp : 0 < n) : i.natAbs.log2 < 1000000 := by
  have : i.natAbs < 2 ^ n := by
    have e : ((2 ^ n : Nat) : Int) = (2 : Int) ^ n := by simp
    omega
  exact Nat.lt_of_lt_of_le (PySem.Flt.log2_lt_of hp this) hn
end WH
namespace WH
open PySem PySem.Spec PyProof.Rows L2
abbrev Sl := List (Option V)
theorem same_upd {H : Hp} {p : Addr} {o : HO} (h : H p = none) : Same H (upd H p o) := fun b x e => by
  rw [upd_ne (ne_of_none e h)]
  exact e
theorem same_set {H H1 : Hp} {p : Addr} {o : HO} (s : Same H H1) (h : H p = none) : Same H (upd H1 p o) := fun b x e => by
  rw [upd_ne (ne_of_none e h)]
  exact s b x e
/-- what a comprehension gives: f i (none: left out) for the turns ahead of i -/
def fmr (f : Nat → Option V) (i : Nat) : List V := (List.range i).filterMap f
theorem fmr_succ (f : Nat → Option V) (i : Nat) : fmr f (i + 1) = fmr f i ++ (f i).toList := by
  unfold fmr
  rw [List.range_succ, List.filterMap_append]
  cases h : f i <;> simp [h]
theorem fmr_len (f : Nat → Option V) (i : Nat) : (fmr f i).length ≤ i := by
  unfold fmr
  exact Nat.le_trans (List.length_filterMap_le _ _) (by rw [List.length_range]; exact Nat.le_refl _)
/-- a comprehension whose turns change nothing that stood -/
theorem lc_fm {J : It} {n : Nat} {G : Hp → Prop} {Y : Nat → Hp → V → Hp → Prop} (w : Walk J n G Y) {g : TG} {tt : TT} {te : TE} {vs : List Nat} {σ : Sl} {H1 : Hp} {D : Addr} {Qd : Hp → Prop}
    (f : Nat → Option V) (hn : n < sizeLine) (hD : H1 D = none) (hG : ∀ H, Same H1 H → G H)
    (hs : ∀ i x H H' (N : Option V → Hp → Prop), i < n → Same H1 H → Y i H x H' → (∀ H4, Same H H4 → N (f i) H4) → g x (wipe σ vs) H' fun σ2 H2 => wipe σ2 vs = wipe σ vs ∧ tt σ2 H2 fun b H3 =>
      if b = true then te σ2 H3 fun y H4 => N (some y) H4 else N none H3)
    (hd : ∀ H, Same H1 H → H D = some (.lst (fmr f n)) → Qd H) :
    ∃ W : Nat → Nat → Hp → Prop, (∃ m, W 0 m (upd H1 D (.lst []))) ∧ ∀ i m H, W i m H →
      (J.stop i H ∧ Qd H) ∨ (J.go i H ∧ ∃ Nx : Hp → Prop, (∀ H', Nx H' → ∃ m', m' < m ∧ W (i + 1) m' H') ∧ ∀ x H', J.yld i H x H' → g x (wipe σ vs) H' fun σ2 H2 => wipe σ2 vs = wipe σ vs ∧ tt σ2 H2 fun b H3 =>
        if b = true then te σ2 H3 fun y H4 => ∃ acc, H4 D = some (.lst acc) ∧ acc.length < sizeLine ∧ Nx (upd H4 D (.lst (acc ++ [y]))) else Nx H3) := by
  refine lc_it w (fun i H => Same H1 H ∧ H D = some (.lst (fmr f i))) ⟨same_upd hD, upd_same⟩ (fun i H _ p => hG H p.1) ?_ (fun H p => hd H p.1 p.2)
  rintro i x H H' hi ⟨s, hd'⟩ hy
  refine hs i x H H' (fun o H4 => match o with
    | some y => ∃ acc, H4 D = some (.lst acc) ∧ acc.length < sizeLine ∧ (Same H1 (upd H4 D (.lst (acc ++ [y]))) ∧ (upd H4 D (.lst (acc ++ [y]))) D = some (.lst (fmr f (i + 1))))
    | none => Same H1 H4 ∧ H4 D = some (.lst (fmr f (i + 1)))) hi s hy fun H4 s4 => ?_
  rw [fmr_succ]
  cases f i with
  | none => exact ⟨s.trans s4, by rw [s4 _ _ hd']; simp⟩
  | some y => exact ⟨_, s4 _ _ hd', Nat.lt_of_le_of_lt (fmr_len f i) (by omega), same_set (s.trans s4) hD, upd_same⟩
/-- all turns keep: the list by a map -/
theorem fmr_map (f : Nat → V) (n : Nat) : fmr (fun i => some (f i)) n = (List.range n).map f := by
  unfold fmr
  rw [← List.filterMap_eq_map]
  rfl
theorem range_map_getD (xs : List V) (F : V → V) : (List.range xs.length).map (fun i => F (xs.getD i .non)) = xs.map F := by
  apply List.ext_getElem
  · simp
  · intro i h1 h2
    simp at h1 h2
    simp [List.getD, h2]
theorem fmr_list (xs : List V) (F : V → Option V) : fmr (fun i => F (xs.getD i .non)) xs.length = xs.filterMap F := by
  unfold fmr
  have : (List.range xs.length).map (fun i => xs.getD i .non) = xs := by
    have := range_map_getD xs (fun v => v)
    simpa using this
  calc (List.range xs.length).filterMap (fun i => F (xs.getD i .non)) = ((List.range xs.length).map (fun i => xs.getD i .non)).filterMap F := by rw [List.filterMap_map]; rfl
    _ = xs.filterMap F := by rw [this]
theorem yesT {σ : Sl} {H : Hp} {A B : Hp → Prop} (h : A H) : tYes σ H (fun b H3 => if b = true then A H3 else B H3) := by
  show (if true = true then A H else B H)
  rw [if_pos rfl]
  exact h
/-- between two statements: what the first one leaves -/
theorem seq_mid {t1 t2 : TS} {D : Ends} {σ : Sl} {H : Hp} (R : Sl → Hp → Prop) (h1 : ∀ N : Sl → Hp → Prop, (∀ σ' H', R σ' H' → N σ' H') → t1 { D with nx := N } σ H) (h2 : ∀ σ' H', R σ' H' → t2 D σ' H') : tSeq t1 t2 D σ H := h1 _ h2
/-! ### the letters -/
def LET : Str := "abcdefghijklmnopqrstuvwxyz"
def isL (z : Str) : Bool := z.cps.toList.all fun c => decide (c ∈ LET.cps.toList)
def isW (z : Str) : Bool := decide (1 ≤ z.length) && decide (z.length ≤ 8) && isL z
theorem getD_at {z : Str} {i c : Nat} (hi : i < z.cps.size) (hc : z.cps[i]? = some c) : z.cps.getD i 0 = c := by
  simp [Array.getD, hi, Array.getElem?_eq_getElem hi] at hc ⊢
  exact hc
theorem fmr_isL (z : Str) : (fmr (fun i => some (.bl (decide (z.cps.getD i 0 ∈ LET.cps.toList)))) z.cps.size) = (z.cps.toList.map fun c => decide (c ∈ LET.cps.toList)).map V.bl := by
  rw [fmr_map]
  apply List.ext_getElem
  · simp
  · intro i h1 h2
    simp at h1 h2
    simp [Array.getD, h2]
theorem all_isL (z : Str) : (z.cps.toList.map fun c => decide (c ∈ LET.cps.toList)).all id = isL z := by
  unfold isL
  rw [List.all_map]
  rfl
end WH
set_option maxHeartbeats 2000000
namespace WH
open PySem PySem.Spec PyProof.Rows L2 PySem.W PySem.Calls
/-- what the written part says of a class with an own == and without an own != -/
structure EqCls (K : PySem.W.Frag) (C f : Addr) : Prop where
  cls : ∃ nm q N bs sn sub ab col dd k0 k1 k2 k3 k5, K.lookup C = some (excClassObj nm q C N bs [.type "object"] true sn sub ab col dd k0 k1 k2 k3 k5 "object.__new__")
  eq : findIn K (.ref C) "__eq__" = some (some (.ref f))
  ne : findIn K (.ref C) "__ne__" = some (some (.builtin "object.__ne__"))
  fn : isFn K (.ref f) = true
section
variable {prog : Program} {w : World} {A : Around} {E : Value → Shared → Prop} {K : PySem.W.Frag} {C x f L : Addr} {b tb : Value} {h₀ : Heap} {s : Shared} {m : Str → Option Value} {ox : Obj} {od : Option Obj}
theorem ifBoundB_K {M : Model} {name : Str} {id : String} {args : List Value} {Q : Option Value → Shared → Prop} (X : K.In s.heap) (I : InstAt s.heap x ox C od) (hs : findIn K (.ref C) name = some (some (.builtin id))) {B : String} (S : Slot B name id)
    (h : wpAny M A (call (.builtin id) (.ref x :: args)) (fun v => Q (some v)) E s) : wpAny M A (callSpecialIfBound? (.ref x) name args) Q E s := by
  simp only [callSpecialIfBound?, bindSpecialIfBound?]
  refine wpAny_holding (wpAny_bind (wpAny_bind (wpAny_bind (I.type.here ((looks_findIn X hs).here ?_)))))
  simp only [S.bind]
  refine wpAny_bind (wpAny_askSetting (wpAny_ite ?_))
  have fin : wpAny M A (call (.builtin id) ([.ref x] ++ args) >>= fun v => pure (some v)) Q E s := wpAny_bind (wpAny_mono h (fun v s' h' => wpAny_pure h') fun _ _ h' => h')
  split
  · exact wpAny_bind (wpAny_pure (wpAny_pure fin))
  · exact wpAny_tryCatch (wpAny_bind (wpAny_pure (wpAny_pure fin)))
theorem objNe_K {Q : Fin → Shared → Prop} (X : K.In s.heap) (I : InstAt s.heap x ox C od) (T : EqCls K C f) (hu : A.units < cLine)
    (h : wpAny (model prog w) A (call (.ref f) [.ref x, b]) (fun v s' => ∃ r, v = .bool r ∧ Q (.done (.ret (.bool (!r)))) s') E s) :
    wpAny (model prog w) A (Builtin.«object.__ne__» ⟨[.ref x, b], []⟩) Q E s := by
  unfold Builtin.«object.__ne__»
  repeat (first
    | with_reducible refine wpAny_cRoomFor hu ?_
    | (refine wpAny_bind (m := callSpecialIfBound? (.ref x) (Str.ofString "__eq__") [b])
        (ifBound_K X I T.eq T.fn (wpAny_mono h (fun r s' hr => by
          obtain ⟨r, rfl, hq⟩ := hr
          repeat (first | exact hq | exact wpAny_pure hq | exact wpAny_truthy_bool hq | (refine wpAny_bind (m := truthy (.bool _)) (wpAny_truthy_bool ?_)) | wp_step)) fun _ _ e => e)))
    | wp_step)
theorem ne_K {Q : Value → Shared → Prop} (hu : A.units + 1 < cLine) (X : K.In s.heap) (I : InstAt s.heap x ox C od) (hb : Looks (model prog w) s.heap (typeOf b) tb) (hn : notFirst K C tb = true) (T : EqCls K C f)
    (h : wpAny (model prog w) A.in1 (call (.ref f) [.ref x, b]) (fun v s' => ∃ r, v = .bool r ∧ Q (.bool (!r)) s') E s) : wpAny (model prog w) A (richCompare .NotEq (.ref x) b) Q E s := by
  obtain ⟨nm, q, N, bs, sn, sub, ab, col, dd, k0, k1, k2, k3, k5, hC⟩ := T.cls
  have one : wpAny (model prog w) A (tryCompare (.ref x) "__ne__" b) (fun r s' => ∃ v, r = some v ∧ Q v s') E s := by
    unfold tryCompare
    refine wpAny_bind (ifBoundB_K X I T.ne F.cmp_object.ne (wpAny_call (codeAny_call_builtin F.cmp_object.ne.plain F.cmpEntry_ne
      (wpAny_check_slot_inst F.cmpKind_ne F.cmpSplit_ne (F.cmpArgs_ne _ _) F.cmp_object.hasObject I.at_ I.cls (X _ _ hC)
        (objNe_K (A := A.in1) X I T hu (wpAny_mono h (fun v s' hv => ?_) fun _ _ e => e))))))
    obtain ⟨r, rfl, hq⟩ := hv
    first | exact ⟨r, rfl, wpAny_pure ⟨_, rfl, hq⟩⟩ | exact ⟨r, rfl, wpAny_pure (wpAny_pure ⟨_, rfl, hq⟩)⟩ 
  unfold richCompare
  simp only [oneThing_ref]
  refine wpAny_holding (wpAny_bind (wpAny_cRoomFor (Nat.lt_of_succ_lt hu) ?_))
  refine wpAny_bind (I.type.here (wpAny_bind (hb.here ?_)))
  split
  · rename_i q
    have e : subIn K tb (.ref C) = some false := by
      rcases Bool.or_eq_true_iff.mp hn with e | e
      · rw [beq_iff_eq.mp e] at q; simp at q
      · exact beq_iff_eq.mp e
    refine wpAny_bind ((looks_subIn X e).here ?_)
    simp only [Bool.false_eq_true, if_false]
    refine wpAny_bind (wpAny_mono one (fun r s' z => ?_) fun _ _ e => e)
    obtain ⟨v, rfl, hq⟩ := z
    exact wpAny_pure hq
  · refine wpAny_bind (wpAny_pure ?_)
    simp only [Bool.false_eq_true, if_false]
    refine wpAny_bind (wpAny_mono one (fun r s' z => ?_) fun _ _ e => e)
    obtain ⟨v, rfl, hq⟩ := z
    exact wpAny_pure hq
end
/-! own == and != with either answer, by the promise of __eq__ -/
def rOwn (K : PySem.W.Frag) (C : Addr) (sp : Sp) (E : XK) (neg : Bool) : R2 := fun x y H Q => ∃ a dx fs t, x = .ref a ∧ H a = some (.ins C dx fs) ∧ TyX K H y t ∧ notFirst K C t = true ∧
  sp [x, y] H (fun v H' => ∃ r, v = .bl r ∧ Q (.bl (if neg = true then !r else r)) H') E
section
variable {X : Cx} {n : Nat} {CX : CXT} {C f : Addr} {fd : FuncData} {ps : List Str} {sp : Sp} {E : XK}
theorem own_call (F : FnOk X.prog X.w X.K X.mg X.base CX n f fd ps sp) (hb : Binds X.K fd ps []) (hx : Passes CX X E) {A : Around} (sb : Sub X n A) {pins : List (Addr × Obj)} {σ : Sl} {H : Hp} {s : Shared} {x y : V} {u v : Value} {Q : VK}
    (I : Inv X pins σ H s) (rx : RelV x u) (ry : RelV y v) (h : sp [x, y] H Q E) : wpAny (model X.prog X.w) A (PySem.call (.ref f) [u, v]) (EP X pins σ Q) X.xe s := by
  have e0 : Env0 X.prog X.w X.K X.mg X.base A X.stack s H := by
    have e := I.env0
    exact ⟨by rw [sb.fr]; exact e.frames, e.mod, e.bs, e.bsz, e.funs, e.frf, e.hok, e.bare⟩
  have hl := F.len _ _ _ _ h
  have r2 : Vals [x, y] [u, v] := .cons rx (.cons ry .nil)
  refine wpAny_call (codeAny_mono (F.run A X.stack s H ⟨[u, v], []⟩ [u, v] [x, y] _ E sb.room e0 (by
    have := hb s [u, v] I.kIn (by simpa using hl)
    simpa using this) r2 h) fun r s' hq => ?_)
  cases r with
  | error e => exact hx pins σ H s e s' I hq
  | ok fl =>
    cases fl with
    | ret w => exact I.after hq
    | next => exact False.elim hq
    | brk => exact False.elim hq
    | cont => exact False.elim hq
theorem op_eqOwn (T : EqCls X.K C f) (F : FnOk X.prog X.w X.K X.mg X.base CX n f fd ps sp) (hb : Binds X.K fd ps []) (hx : Passes CX X E) (hr : Room n X.A) : OpR X (compareOp .Eq) (rOwn X.K C sp E false) := by
  intro pins s σ H x y v u Q I rx ry hq
  obtain ⟨a, dx, fs, t, rfl, ha, ty, hn, q⟩ := hq
  cases rx
  obtain ⟨mA, J, _⟩ := ins_get I.hok ha
  obtain ⟨od, J, _⟩ := J.look
  obtain ⟨m, hF⟩ := I.fr
  obtain ⟨Pk, kx, hp, _⟩ := kit_of I ry ty
  show wpAny (model X.prog X.w) X.A (richCompare .Eq _ u) (EP X pins σ Q) X.xe s
  refine PySem.W.cmp_K (op := .Eq) (tb := t) hr.units0 hF I.ok.mod.kin J (kx.ty _ _ I.kIn hp) hn T.eq T.fn ?_
  refine wpAny_mono (own_call (x := .ref a) F hb hx ⟨hr, rfl⟩ I (show RelV (.ref a) (.ref a) from rfl) ry q) (fun r s' z => ?_) fun _ _ x => x
  obtain ⟨z, H', I', rz, b, rfl, ez⟩ := z
  cases rz
  exact ⟨.bl b, H', I', rfl, ez⟩
theorem op_neOwn (T : EqCls X.K C f) (F : FnOk X.prog X.w X.K X.mg X.base CX n f fd ps sp) (hb : Binds X.K fd ps []) (hx : Passes CX X E) (hr : Room (n + 1) X.A) : OpR X (compareOp .NotEq) (rOwn X.K C sp E true) := by
  intro pins s σ H x y v u Q I rx ry hq
  obtain ⟨a, dx, fs, t, rfl, ha, ty, hn, q⟩ := hq
  cases rx
  obtain ⟨mA, J, _⟩ := ins_get I.hok ha
  obtain ⟨od, J, _⟩ := J.look
  obtain ⟨Pk, kx, hp, _⟩ := kit_of I ry ty
  show wpAny (model X.prog X.w) X.A (richCompare .NotEq _ u) (EP X pins σ Q) X.xe s
  refine ne_K (hu_of (k := n + 1) hr) I.kIn J (kx.ty _ _ I.kIn hp) hn T ?_
  refine wpAny_mono (own_call (x := .ref a) F hb hx (Sub.in1 ⟨hr, rfl⟩) I (show RelV (.ref a) (.ref a) from rfl) ry q) (fun r s' z => ?_) fun _ _ x => x
  obtain ⟨z, H', I', rz, b, rfl, ez⟩ := z
  cases rz
  exact ⟨b, rfl, .bl (!b), H', I', rfl, ez⟩
end
end WH
namespace WH
open PySem PySem.Spec PyProof.Rows L2
/-! texts in lists and tuples, as data -/
def dStrs (ws : List Str) : List PyData := ws.map PyData.str
theorem eqvAll_strs : ∀ a b : List Str, PyData.eqvAll (dStrs a) (dStrs b) = decide (a = b)
  | [], [] => by simp [dStrs, PyData.eqvAll]
  | [], _ :: _ => by simp [dStrs, PyData.eqvAll]
  | _ :: _, [] => by simp [dStrs, PyData.eqvAll]
  | x :: a, y :: b => by
    have ih := eqvAll_strs a b
    unfold dStrs at ih ⊢
    rw [List.map_cons, List.map_cons]
    simp only [PyData.eqvAll, PyData.eqv, ih]
    by_cases h : x = y <;> by_cases h2 : a = b <;> simp [h, h2]
def SOk (a : List Str) : Prop := ∀ x ∈ a, PyData.strOk x = true
theorem canLay_strs : ∀ a : List Str, SOk a → PyData.canLayAll0 (dStrs a) = true
  | [], _ => by simp [dStrs, PyData.canLayAll0]
  | x :: a, h => by
    have ih := canLay_strs a fun y hy => h y (List.mem_cons_of_mem _ hy)
    unfold dStrs at ih ⊢
    rw [List.map_cons]
    simp only [PyData.canLayAll0, PyData.canLay0, ih, h x List.mem_cons_self, Bool.and_self]
theorem depth_strs : ∀ a : List Str, PyData.depthAll (dStrs a) ≤ 1
  | [] => by simp [dStrs, PyData.depthAll]
  | x :: a => by
    have ih := depth_strs a
    unfold dStrs at ih ⊢
    rw [List.map_cons]
    simp only [PyData.depthAll, PyData.depth]
    omega
theorem dpAll_strs {K : PySem.W.Frag} {H : Hp} : ∀ a : List Str, DpAll K H (a.map V.str) (dStrs a)
  | [] => .nil
  | x :: a => .cons (.str x) (dpAll_strs a)
theorem dp_lst {K : PySem.W.Frag} {H : Hp} {a : Addr} {ws : List Str} (h : SqL K H a (ws.map V.str)) : Dp K H (.ref a) (.list (dStrs ws)) := .lst h (dpAll_strs ws)
theorem dp_tup {K : PySem.W.Frag} {H : Hp} {a : Addr} {ws : List Str} (h : SqT K H a (ws.map V.str)) : Dp K H (.ref a) (.tuple (dStrs ws)) := .tup h (dpAll_strs ws)
theorem sh_lst {ws : List Str} (h : SOk ws) : SeqAt.shaped (.list (dStrs ws)) = true := by
  unfold SeqAt.shaped
  have := depth_strs ws
  simp only [PyData.canLay0, canLay_strs ws h, PyData.depth, Bool.true_and]
  exact decide_eq_true (by omega)
theorem sh_tup {ws : List Str} (h : SOk ws) : SeqAt.shaped (.tuple (dStrs ws)) = true := by
  unfold SeqAt.shaped
  have := depth_strs ws
  simp only [PyData.canLay0, canLay_strs ws h, PyData.depth, Bool.true_and]
  exact decide_eq_true (by omega)
theorem eqv_lst (a b : List Str) : PyData.eqv (.list (dStrs a)) (.list (dStrs b)) = decide (a = b) := by
  simp only [PyData.eqv]
  exact eqvAll_strs a b
theorem eqv_tup (a b : List Str) : PyData.eqv (.tuple (dStrs a)) (.tuple (dStrs b)) = decide (a = b) := by
  simp only [PyData.eqv]
  exact eqvAll_strs a b
theorem let_small : ∀ c ∈ LET.cps.toList, c < 123 := by decide +kernel
theorem sok_isL {x : Str} (h : isL x = true) : PyData.strOk x = true := by
  unfold PyData.strOk
  unfold isL at h
  rw [← Array.all_toList]
  rw [List.all_eq_true] at h ⊢
  intro c hc
  have h1 := let_small c (of_decide_eq_true (h c hc))
  exact decide_eq_true (by omega)
theorem sok_isW {x : Str} (h : isW x = true) : PyData.strOk x = true := by
  unfold isW at h
  simp only [Bool.and_eq_true] at h
  exact sok_isL h.2
/-! lists of lists of texts -/
def dLol (l : List (List Str)) : List PyData := l.map fun ws => PyData.list (dStrs ws)
theorem eqvAll_lol : ∀ a b : List (List Str), PyData.eqvAll (dLol a) (dLol b) = decide (a = b)
  | [], [] => by simp [dLol, PyData.eqvAll]
  | [], _ :: _ => by simp [dLol, PyData.eqvAll]
  | _ :: _, [] => by simp [dLol, PyData.eqvAll]
  | x :: a, y :: b => by
    have ih := eqvAll_lol a b
    unfold dLol at ih ⊢
    rw [List.map_cons, List.map_cons]
    simp only [PyData.eqvAll, eqv_lst, ih]
    by_cases h : x = y <;> by_cases h2 : a = b <;> simp [h, h2]
theorem canLay_lol : ∀ a : List (List Str), (∀ x ∈ a, SOk x) → PyData.canLayAll0 (dLol a) = true
  | [], _ => by simp [dLol, PyData.canLayAll0]
  | x :: a, h => by
    have ih := canLay_lol a fun y hy => h y (List.mem_cons_of_mem _ hy)
    unfold dLol at ih ⊢
    rw [List.map_cons]
    simp only [PyData.canLayAll0, PyData.canLay0, canLay_strs x (h x List.mem_cons_self), ih, Bool.and_self]
theorem depth_lol : ∀ a : List (List Str), PyData.depthAll (dLol a) ≤ 3
  | [] => by simp [dLol, PyData.depthAll]
  | x :: a => by
    have ih := depth_lol a
    have h2 := depth_strs x
    unfold dLol at ih ⊢
    rw [List.map_cons]
    simp only [PyData.depthAll, PyData.depth]
    omega
theorem sh_lol {l : List (List Str)} (h : ∀ x ∈ l, SOk x) : SeqAt.shaped (.list (dLol l)) = true := by
  unfold SeqAt.shaped
  have := depth_lol l
  simp only [PyData.canLay0, canLay_lol l h, PyData.depth, Bool.true_and]
  exact decide_eq_true (by omega)
theorem eqv_lol (a b : List (List Str)) : PyData.eqv (.list (dLol a)) (.list (dLol b)) = decide (a = b) := by
  simp only [PyData.eqv]
  exact eqvAll_lol a b
/-! in -/
theorem inV_strs (x : Str) (ws : List Str) : inV (.str x) (ws.map V.str) = decide (x ∈ ws) := by
  unfold inV
  rw [List.any_map]
  induction ws with
  | nil => simp
  | cons y r ih =>
    rw [List.any_cons, ih]
    have e : ((fun y => eqV y (V.str x)) ∘ V.str) y = decide (y = x) := by
      show eqV (V.str y) (V.str x) = _
      simp only [eqV]
      by_cases h : y = x <;> simp [h]
    rw [e]
    by_cases h : y = x <;> by_cases h2 : x ∈ r <;> simp [h, h2, eq_comm]
    all_goals (first | exact fun z => h z.symm | skip)
theorem flat_strs (ws : List Str) : (ws.map V.str).all flatV = true := by
  rw [List.all_map, List.all_eq_true]
  intro x _
  rfl
def fSel (q : Str → Bool) : V → Option V
  | .str z => if q z = true then some (.str z) else none
  | _ => none
theorem fSel_yes {q : Str → Bool} {z : Str} (h : q z = true) : fSel q (.str z) = some (.str z) := if_pos h
theorem fSel_no {q : Str → Bool} {z : Str} (h : q z = false) : fSel q (.str z) = none := if_neg (by simp [h])
theorem fmap_filter (ws : List Str) (q : Str → Bool) : (ws.map V.str).filterMap (fSel q) = (ws.filter q).map V.str := by
  induction ws with
  | nil => rfl
  | cons y r ih =>
    rw [List.map_cons, List.filterMap_cons]
    by_cases h : q y = true
    · simp [h, ih, fSel]
    · simp [h, ih, fSel]
section
variable {X : Cx} {CX : CXT} {k : Nat} {f : Addr} {fd : FuncData} {ps ks : List Str} {sp : Sp} {E : XK} {x : Str} {p pos : Pos} {kws : List Keyword} {tk : TA} {g : List Value → List Value → List Value} {gV : List V → List V → List V}
/-- f(k = v, ..) -/
theorem pe_callK0 (F : FnOk X.prog X.w X.K X.mg X.base CX k f fd ps sp) (hr : Room k X.A) (hg : Gl X x) (hm : X.mg x = some (.ref f)) (hk : PySem.W.keepIn X.K (.ref f) = true) (hb : KBinds X.K fd ps ks g gV) (hx : Passes CX X E)
    (hkw : PK X kws tk) (hall : (backToKw pos (keywordEach kws X.env)).all (·.1.isSome) = true := by rfl) (hks : (backToKw pos (keywordEach kws X.env)).filterMap (·.1) = ks := by rfl)
    (hdb : (x == ("__debug__" : Str)) = false := by decide) 
    (hpl : ((backTo pos (starEach [] X.env)).any (·.1) || (backToKw pos (keywordEach kws X.env)).any (·.1.isNone)) = false := by rfl) :
    PE X (.Call (.Name x p) [] kws pos) (tCallK sp gV E tNil tk) := by
  refine ⟨fun pins s σ H Q I h => ?_⟩
  refine wpAny_Call_Name_kw (ld_glob I hg hm ?_ hdb)
  refine PySem.W.callWith_KW0 (h₀ := X.base) I.ok.mod.kin hk hall ?_ hpl
  refine thn (hkw.run pos pins s σ H _ I h) fun ws s2 ⟨zs, H2, I2, rz, q2⟩ => ⟨I2.kIn, ?_⟩
  rw [hks]
  exact run_fnk (us := []) (vs := []) F hr hb hx I2 .nil rz q2
end
/-- how keywords bind -/
theorem kbinds_of {K : PySem.W.Frag} {x qual : Str} {st : Stmt} {f : Addr} {fd : FuncData} {ps ks : List Str} (F : Fun K x qual st f fd) (g : List Value → List Value → List Value) (gV : List V → List V → List V)
    (hrel : ∀ {vs : List V} {us : List Value} {zs : List V} {ws : List Value}, Vals vs us → Vals zs ws → Vals (gV vs zs) (g us ws))
    (h : ∀ (kV doc pm : Value) (an : Option Addr) (cdv ct : Value) (us ws : List Value), (g us ws).length = ps.length → bindArgs (PySem.W.fnOf x qual (defArgs st) (defBody st) (defScope st) .none kV doc pm an cdv ct) ⟨us, ks.zip ws⟩ = pure (ps.zip (g us ws))) : KBinds K fd ps ks g gV := by
  obtain ⟨oc, od, kV, doc, pm, an, cdv, ct, osl, rfl, lk, hcd⟩ := F.ex
  exact ⟨fun s us ws _ hl => .of_eq (h kV doc pm an cdv ct us ws hl), hrel⟩
/-- C(k = v): how it binds behind the instance -/
theorem kbn_words {K : PySem.W.Frag} {x qual : Str} {st : Stmt} {f : Addr} {fd : FuncData} {ps ks : List Str} (F : Fun K x qual st f fd)
    (h : ∀ (kV doc pm : Value) (an : Option Addr) (cdv ct : Value) (us ws : List Value), us.length = 1 → ws.length = ks.length → bindArgs (PySem.W.fnOf x qual (defArgs st) (defBody st) (defScope st) .none kV doc pm an cdv ct) ⟨us, ks.zip ws⟩ = pure (ps.zip (us ++ ws))) :
    KBn K fd ps 1 ks (fun us ws => us ++ ws) (fun us ws => us ++ ws) := by
  obtain ⟨oc, od, kV, doc, pm, an, cdv, ct, osl, rfl, lk, hcd⟩ := F.ex
  exact ⟨fun s us ws _ l1 l2 => .of_eq (h kV doc pm an cdv ct us ws l1 l2), fun r1 r2 => r1.append r2⟩
/-- two keywords, the second one first -/
def gTurn {α : Type} : List α → List α → List α
  | [], [a, b] => [b, a]
  | _, _ => []
theorem gTurn_rel {vs : List V} {us : List Value} {zs : List V} {ws : List Value} (h1 : Vals vs us) (h2 : Vals zs ws) : Vals (gTurn vs zs) (gTurn us ws) := by
  cases h1 with
  | nil =>
    cases h2 with
    | nil => exact .nil
    | cons a h2 =>
      cases h2 with
      | nil => exact .nil
      | cons b h2 =>
        cases h2 with
        | nil => exact .cons b (.cons a .nil)
        | cons c h2 => exact .nil
  | cons a h1 =>
    exact .nil
/-! texts run together -/
def catS (ys : List Str) : Str := ⟨((ys.map fun y => y.cps.toList).flatten).toArray⟩
theorem catS_list (ys : List Str) : (catS ys).cps.toList = (ys.map fun y => y.cps.toList).flatten := rfl
theorem glue_fold (e : Array Nat) (he : e = #[]) : ∀ (ps : List Str) (a : Array Nat), (ps.foldl (fun acc p => acc ++ e ++ p.cps) a).toList = a.toList ++ (ps.map fun y => y.cps.toList).flatten
  | [], a => by simp
  | p :: ps, a => by
    rw [List.foldl_cons, glue_fold e he ps]
    subst he
    simp
theorem join_cat {sep : Str} (hs : sep.cps = #[]) (ys : List Str) : Txt.join sep ys = catS ys := by
  apply ext_toList
  rw [catS_list]
  unfold Txt.join Builtin.Str.glued
  show ((ys.drop 1).foldl (fun acc p => acc ++ sep.cps ++ p.cps) (ys.headD Str.empty).cps).toList = _
  rw [glue_fold _ hs]
  cases ys with
  | nil => rfl
  | cons y r => simp
theorem catS_len (ys : List Str) : (catS ys).length = (ys.map (·.length)).sum := by
  show (catS ys).cps.size = _
  rw [← Array.length_toList, catS_list, List.length_flatten, List.map_map]
  rfl
theorem sum_ones (us : List Str) (h : ∀ u ∈ us, ∃ c, u = ⟨#[c]⟩) : (us.map (·.length)).sum = us.length := by
  induction us with
  | nil => rfl
  | cons u r ih =>
    obtain ⟨c, hc⟩ := h u List.mem_cons_self
    rw [List.map_cons, List.sum_cons, ih fun v hv => h v (List.mem_cons_of_mem _ hv), hc, List.length_cons]
    show 1 + r.length = r.length + 1
    omega
/-! cuts of texts -/
theorem cut_hi (z : Str) {c : Int} (h : 0 ≤ c) : (cutS z none (some c)).cps.toList = z.cps.toList.take c.toNat := by
  have e : c = (c.toNat : Int) := by omega
  unfold cutS
  rw [e, HT.sIx_nat, HT.sIx_none]
  show (z.cps.toList.drop 0).take (min c.toNat z.length - 0) = _
  rw [List.drop_zero, Nat.sub_zero]
  have : z.length = z.cps.toList.length := by simp [Str.length]
  rw [this, ← List.take_eq_take_min]
  rfl
theorem cut_lo (z : Str) {c : Int} (h : 0 ≤ c) : (cutS z (some c) none).cps.toList = z.cps.toList.drop c.toNat := by
  have e : c = (c.toNat : Int) := by omega
  unfold cutS
  rw [e, HT.sIx_nat, HT.sIx_none]
  have hz : z.length = z.cps.toList.length := by simp [Str.length]
  show (z.cps.toList.drop (min c.toNat z.length)).take (z.length - min c.toNat z.length) = z.cps.toList.drop c.toNat
  by_cases hc : c.toNat ≤ z.length
  · rw [Nat.min_eq_left hc, hz, List.take_of_length_le (by rw [List.length_drop]; omega)]
  · rw [Nat.min_eq_right (by omega), hz, List.drop_of_length_le (Nat.le_refl _), List.drop_of_length_le (by omega)]
    simp
theorem len_list (z : Str) : z.length = z.cps.toList.length := by simp [Str.length]
theorem isL_iff {z : Str} : isL z = true ↔ ∀ c ∈ z.cps.toList, c ∈ LET.cps.toList := by
  unfold isL
  rw [List.all_eq_true]
  exact ⟨fun h c hc => of_decide_eq_true (h c hc), fun h c hc => decide_eq_true (h c hc)⟩
theorem isL_app {a b : Str} (h1 : isL a = true) (h2 : isL b = true) : isL (a ++ b) = true := by
  rw [isL_iff] at h1 h2 ⊢
  intro c hc
  rw [Str.cps_append, Array.toList_append] at hc
  rcases List.mem_append.mp hc with h | h
  · exact h1 c h
  · exact h2 c h
theorem isL_hi {z : Str} {c : Int} (h0 : 0 ≤ c) (h : isL z = true) : isL (cutS z none (some c)) = true := by
  rw [isL_iff] at h ⊢
  intro x hx
  rw [cut_hi z h0] at hx
  exact h x (List.mem_of_mem_take hx)
theorem isL_lo {z : Str} {c : Int} (h0 : 0 ≤ c) (h : isL z = true) : isL (cutS z (some c) none) = true := by
  rw [isL_iff] at h ⊢
  intro x hx
  rw [cut_lo z h0] at hx
  exact h x (List.mem_of_mem_drop hx)
theorem len_app (a b : Str) : (a ++ b).length = a.length + b.length := Str.length_append a b
theorem len_hi {z : Str} {c : Int} (h0 : 0 ≤ c) : (cutS z none (some c)).length = min c.toNat z.length := by
  rw [len_list, cut_hi z h0, List.length_take, ← len_list]
theorem len_lo {z : Str} {c : Int} (h0 : 0 ≤ c) : (cutS z (some c) none).length = z.length - c.toNat := by
  rw [len_list, cut_lo z h0, List.length_drop, ← len_list]
/-- an item of a written list of texts -/
theorem at_strs {ss : List Str} {e : Int} (h0 : 0 ≤ e) (h : e < (ss.length : Int)) : ∃ s, atI (ss.map V.str) e = some (.str s) ∧ s ∈ ss ∧ ss[e.toNat]? = some s := by
  have hl : e.toNat < ss.length := by omega
  refine ⟨ss[e.toNat], ?_, List.getElem_mem hl, List.getElem?_eq_getElem hl⟩
  have e1 : (e.toNat : Int) = e := by omega
  have := atI_nat (xs := ss.map V.str) (j := e.toNat) (v := .str ss[e.toNat]) (by simp [hl])
  rwa [e1] at this
end WH
namespace WH
open PySem PySem.Spec PyProof.Rows L2
/-- a comprehension (no test) whose elements are new lists -/
theorem lc_refs' {J : It} {n : Nat} {G : Hp → Prop} {Y : Nat → Hp → V → Hp → Prop} (w : Walk J n G Y) {i0 : Nat} {te : TE} {vs : List Nat} {σ : Sl} {H1 : Hp} {D : Addr} {Qd : Hp → Prop}
    (c : Nat → List V) (hn : n < sizeLine) (hD : H1 D = none) (hG : ∀ H, Same H1 H → G H) (hw : ∀ x, wipe ((wipe σ vs).set i0 (some x)) vs = wipe σ vs)
    (hs : ∀ i x H H' (N : V → Hp → Prop), i < n → Same H1 H → Y i H x H' → (∀ l H4, H l = none → Same H H4 → H4 l = some (.lst (c i)) → N (.ref l) H4) → te ((wipe σ vs).set i0 (some x)) H' N)
    (hd : ∀ (ls : List Addr) H, Same H1 H → H D = some (.lst (ls.map V.ref)) → ls.length = n → (∀ (j : Nat) (l : Addr), ls[j]? = some l → H l = some (.lst (c j))) → Qd H) :
    ∃ W : Nat → Nat → Hp → Prop, (∃ m, W 0 m (upd H1 D (.lst []))) ∧ ∀ i m H, W i m H →
      (J.stop i H ∧ Qd H) ∨ (J.go i H ∧ ∃ Nx : Hp → Prop, (∀ H', Nx H' → ∃ m', m' < m ∧ W (i + 1) m' H') ∧ ∀ x H', J.yld i H x H' → gName i0 x (wipe σ vs) H' fun σ2 H2 => wipe σ2 vs = wipe σ vs ∧ tYes σ2 H2 fun b H3 =>
        if b = true then te σ2 H3 fun y H4 => ∃ acc, H4 D = some (.lst acc) ∧ acc.length < sizeLine ∧ Nx (upd H4 D (.lst (acc ++ [y]))) else Nx H3) := by
  refine lc_it w (fun i H => ∃ ls : List Addr, ls.length = i ∧ H D = some (.lst (ls.map V.ref)) ∧ (∀ (j : Nat) (l : Addr), ls[j]? = some l → l ≠ D ∧ H l = some (.lst (c j))) ∧ Same H1 H) ⟨[], rfl, upd_same, fun j l h => by simp at h, same_upd hD⟩ (fun i H _ p => hG H p.choose_spec.2.2.2) ?_ ?_
  · rintro i x H H' hi ⟨ls, hl, h1, h2, s⟩ hy
    refine ⟨hw x, yesT ?_⟩
    refine hs i x H H' _ hi s hy fun l H4 nl s4 h4 => ?_
    have nlD : l ≠ D := by
      intro z
      subst z
      rw [h1] at nl
      cases nl
    refine ⟨ls.map V.ref, s4 _ _ h1, ?_, ls ++ [l], by simp [hl], ?_, fun j m hj => ?_, same_set (s.trans s4) hD⟩
    · rw [List.length_map]
      omega
    · rw [upd_same]
      simp
    · by_cases hji : j < ls.length
      · rw [List.getElem?_append_left hji] at hj
        obtain ⟨a1, a2⟩ := h2 j m hj
        exact ⟨a1, by rw [upd_ne a1]; exact s4 _ _ a2⟩
      · have hj2 : j = ls.length := by
          have := (List.getElem?_eq_some_iff.mp hj).1
          rw [List.length_append] at this
          simp at this
          omega
        subst hj2
        rw [List.getElem?_append_right (Nat.le_refl _)] at hj
        simp at hj
        subst hj
        rw [hl]
        exact ⟨nlD, by rw [upd_ne nlD]; exact h4⟩
  · rintro H ⟨ls, hl, h1, h2, s⟩
    exact hd ls H s h1 hl fun j l h => (h2 j l h).2
theorem dpAll_refs {K : PySem.W.Frag} {H : Hp} : ∀ (ls : List Addr) (wss : List (List Str)), ls.length = wss.length → (∀ (j : Nat) (l : Addr) (ws : List Str), ls[j]? = some l → wss[j]? = some ws → SqL K H l (ws.map V.str)) → DpAll K H (ls.map V.ref) (dLol wss)
  | [], [], _, _ => .nil
  | [], _ :: _, h, _ => by simp at h
  | _ :: _, [], h, _ => by simp at h
  | l :: ls, ws :: wss, h, q => .cons (dp_lst (q 0 l ws rfl rfl)) (dpAll_refs ls wss (by simpa using h) fun j l' ws' h1 h2 => q (j + 1) l' ws' (by simpa using h1) (by simpa using h2))
/-- [due] * 2 -/
theorem dp_two {K : PySem.W.Frag} {H : Hp} {a l : Addr} {ws : List Str} (h : SqL K H a [.ref l, .ref l]) (hl : SqL K H l (ws.map V.str)) : Dp K H (.ref a) (.list (dLol [ws, ws])) :=
  .lst h (.cons (dp_lst hl) (.cons (dp_lst hl) .nil))
theorem gTurn_two {α : Type} {us ws : List α} (h : (gTurn us ws).length = 2) : us = [] ∧ ∃ a b, ws = [a, b] := by
  match us, ws, h with
  | [], [a, b], _ => exact ⟨rfl, a, b, rfl⟩
/-- the same behind a plain assignment -/
theorem seq_midN {i : Nat} {v : V} {t1 t2 : TS} {D : Ends} {σ : Sl} {H : Hp} (R : Sl → Hp → Prop) (h1 : ∀ N : Sl → Hp → Prop, (∀ σ' H', R σ' H' → N σ' H') → t1 { D with nx := N } (σ.set i (some v)) H) (h2 : ∀ σ' H', R σ' H' → t2 D σ' H') : gName i v σ H (tSeq t1 t2 D) := h1 _ h2
end WH
namespace WH
open PySem PySem.Spec PyProof.Rows L2
/-! ### repr, where it is known that no repr runs around -/
def rRepr (K : PySem.W.Frag) : List V → Hp → VK → Prop := fun xs H Q => ∃ (a : Addr) (d : PyData), xs = [.ref a] ∧ Dp K H (.ref a) d ∧ d.showable = true ∧ d.hasDict = false ∧ d.depth ≤ 60 ∧ d.shown.length ≤ sizeLine ∧ Q (.str d.shown) H
theorem call_repr {X : Cx} (hG : X.A.guards = some []) (hu : X.A.units + 64 < cLine) : CallR X (.builtin "repr") (rRepr X.K) := by
  intro pins s σ H xs us Q I r h
  obtain ⟨a, d, rfl, hd, hs, hn, hp, hz, q⟩ := h
  obtain ⟨u, rfl, ru⟩ := vals1 r
  obtain rfl : u = Value.ref a := ru
  obtain ⟨as, rd⟩ := hd.reads I d (.ref a) (.ref a) rfl
  exact repr_of_reads' rd hs (PyData.noDict_hsm hn) hG (by omega) (fun _ _ e => e) (fun h' t k keep => ⟨.str d.shown, H, I.kept keep, ⟨_, rfl⟩, q⟩) hz
/-- a def that keeps its promise where no repr runs around -/
structure FnG (P : Program) (w : World) (K : PySem.W.Frag) (mg : Str → Option Value) (base : Heap) (CX : CXT) (k : Nat) (f : Addr) (fd : FuncData) (ps : List Str) (sp : Sp) : Prop where
  len : ∀ vs H Q E, sp vs H Q E → vs.length = ps.length
  run : ∀ (A : Around) (outer : List Env) (s : Shared) (H : Hp) (args : Args) (us : List Value) (vs : List V) (Q : VK) (E : XK), Room k A → A.guards = some [] → Env0 P w K mg base A outer s H → BindsTo s fd args (ps.zip us) → Vals vs us →
    sp vs H Q E → codeAny (model P w) A (.call (.ref f) args) (CR CX outer P w H s Q E) s
section
variable {P : Program} {w : World} {K : PySem.W.Frag} {mg : Str → Option Value} {base : Heap} {CX : CXT}
theorem Fun.okG {x qual : Str} {st : Stmt} {f : Addr} {fd : FuncData} {N ps : List Str} {k : Nat} {sp : Sp} (F : Fun K x qual st f fd) (S : FnScope N ps (defScope st)) (len : ∀ vs H Q E, sp vs H Q E → vs.length = ps.length)
    (hbody : ∀ (cdv : Value) (A : Around) (outer : List Env) (s : Shared) (H : Hp) (vs : List V) (Q : VK) (E : XK), Room k (A.deeper (envOfC qual (defScope st) s.heap.objs.size f cdv)) → (A.deeper (envOfC qual (defScope st) s.heap.objs.size f cdv)).guards = some [] → sp vs H Q E →
      ∃ t, PSs (cxOf CX0 P w K mg base N qual (defScope st) f cdv A outer s H E).nox (defBody st) t ∧ t { nx := fun _ H' => Q .non H', rt := Q } (start N vs) H) : FnG P w K mg base CX0 (k + 1) f fd ps sp := by
  obtain ⟨oc, od, kV, doc, pm, an, cdv, ct, osl, rfl, lk, hcd⟩ := F.ex
  refine ⟨len, fun A outer s H args us vs Q E room hG env0 bind rel want => ?_⟩
  have inK : K.In s.heap := env0.mod.kin.keeps fun b o z => (env0.bs b o z).1
  have noLim : s.heap.NoLimit := env0.mod.nolimit.keeps fun b o z => (env0.bs b o z).1
  have kinds : ∀ y ∈ ps.zip us, (defScope st).names.lookup y.1 = some .local ∨ ((defScope st).names.lookup y.1 = some .cell ∧ ((cellsFrom (s.heap.objs.size + 1) (defScope st).names []).lookup y.1).isSome = true) := by
    rintro ⟨x', v'⟩ hy
    exact (S.par x' (List.of_mem_zip hy).1).elim (fun z => .inl z) fun z => .inr ⟨z, PySem.W.cellsFrom_some _ _ _ (.inl z)⟩
  refine codeAny_call_function room.depth (inK _ _ lk) rfl S.co S.gen rfl (PySem.W.codeRec_of inK hcd) (bind _ _ _ _ ?_)
  refine wpAny_newFunctionEnv_cells S.kind kinds fun env' isEnv s2 made => ?_
  subst isEnv
  refine ⟨noLim.keeps made.toInCall.keep, codeAny_func ?_⟩
  obtain ⟨t, derived, reading⟩ := hbody cdv A outer s H vs Q E (room.deeper _) hG want
  have inv : Inv (cxOf CX0 P w K mg base N qual (defScope st) f cdv A outer s H E) [] (start N vs) H s2 := inv_start S room.hd env0 (len _ _ _ _ want) rel made
  refine wpAny_mono (derived.nox.run [] s2 (start N vs) H _ inv reading) (fun flow s3 out => ?_) fun _ _ z => z
  have back : ∀ {σ3 : Sl} {H3 : Hp} {v3 : V} {u3 : Value}, Inv (cxOf CX0 P w K mg base N qual (defScope st) f cdv A outer s H E) [] σ3 H3 s3 → RelV v3 u3 → Q v3 H3 → CE outer P w H s Q u3 s3 := fun J rv3 q3 => ⟨_, _, J.os, J.bare, J.base, J.hok, rv3, q3⟩
  match flow, out with
  | .ret u3, ⟨v3, σ3, H3, J, rv3, q3⟩ => exact back J rv3 q3
  | .next, ⟨σ3, H3, J, q3⟩ => exact back (v3 := V.non) (u3 := Value.none) J rfl q3
  | .brk, ⟨_, _, _, q3⟩ => exact q3.elim
  | .cont, ⟨_, _, _, q3⟩ => exact q3.elim
end
section
variable {X : Cx} {CX : CXT} {k : Nat} {f : Addr} {fd : FuncData} {ps : List Str} {sp : Sp} {E : XK} {x : Str} {p pos : Pos} {e : Expr} {es : List Expr} {t : TA}
/-- f(e, ..), f such a def -/
theorem pe_callG (F : FnG X.prog X.w X.K X.mg X.base CX k f fd ps sp) (hr : Room k X.A) (hG : X.A.guards = some []) (hg : Gl X x) (hm : X.mg x = some (.ref f)) (hk : PySem.W.keepIn X.K (.ref f) = true) (hb : Binds X.K fd ps []) (hx : Passes CX X E) (ha : PA X (e :: es) t)
    (hdb : (x == ("__debug__" : Str)) = false := by decide) (he : starEach (e :: es) X.env = (false, eval e X.env) :: starEach es X.env := by rfl) (hpl : (backTo pos (starEach es X.env)).any (·.1) = false := by rfl) : PE X (.Call (.Name x p) (e :: es) [] pos) (tCall sp [] E t) := by
  refine ⟨fun pins s σ H Q I h => wpAny_Call_Name_kw (ld_glob I hg hm ?_ hdb)⟩
  refine PySem.W.callWith_K (h₀ := X.base) I.ok.mod.kin hk (thn (ha.run pos pins s σ H _ I h) fun us s1 ⟨vs, H1, I1, r, q⟩ => ⟨I1.kIn, ?_⟩) he hpl
  have q0 : sp vs H1 Q E := by simpa using q
  have le : us.length = ps.length := by rw [← r.length]; exact F.len _ _ _ _ q0
  have bd : BindsTo s1 fd ⟨us, []⟩ (ps.zip us) := by simpa using hb s1 us I1.kIn (by simpa using le)
  refine wpAny_call (codeAny_mono (F.run X.A X.stack s1 H1 ⟨us, []⟩ us vs Q E hr hG I1.env0 bd r q0) fun res s2 out => ?_)
  match res, out with
  | .error _, out => exact hx pins σ H1 s1 _ s2 I1 out
  | .ok (.ret _), out => exact I1.after out
  | .ok .next, out => exact out.elim
  | .ok .brk, out => exact out.elim
  | .ok .cont, out => exact out.elim
end
/-! ### the law's call: no repr runs around it -/
section
variable {P : Program} {w : World} {K : PySem.W.Frag} {mg mb : Str → Option Value} {k : Nat} {fa a : Addr} {fd : FuncData} {x : Str} {sp : Sp} {s₁ : Shared} {vs : List Value} {ns : List Int}
/-- from a heap in which the script alone may be tracked -/
theorem law_from {H : Hp} (inK : K.In s₁.heap) (hmod : s₁.heap.Ns mainGlobals mg) (hblt : s₁.heap.Ns builtinsNs mb) (hall : ∀ x : Str, x ≠ "__name__" → mb x = bootBuiltins x) (hlim : s₁.heap.NoLimit) (gens : s₁.gens = #[])
    (ha : s₁.heap.get? a = some { cls := .type "list", data := .seq vs.toArray }) (room : Room k callerA) (F : ∀ base : Heap, K.In base → base.Ns mainGlobals mg → FnG P w K mg base CX0 k fa fd [x] sp)
    (hbind : ∀ (s : Shared) (u : Value), BindsTo s fd ⟨[u], []⟩ [(x, u)]) (only : Only H) (want : sp [.ref a] H (fun v _ => v = .bl true) fun _ _ _ => False) (hok : HOk P w H s₁.heap)
    (just : ∀ b, H b ≠ none → b = a) (free : H a ≠ none → K.lookup a = none) :
    codeAny (model P w) callerA (.call (.ref fa) ⟨[.ref a], []⟩) (fun r s' => r = .ok (.ret (.bool true)) ∧ OldK s₁.heap s'.heap ∧ s'.os = s₁.os ∧ AllBare s'.gens) s₁ := by
  have atA : ∀ {b : Addr} {u : HO}, H b = some u → b = a := fun {b u} z => just b (by rw [z]; exact Option.some_ne_none u)
  have dictFree : ∀ {b : Addr} {o : Obj} {es : Array DictEntry} {n : Nat}, s₁.heap.get? b = some o → o.data = .dict es n → H b = none := by
    intro b o es n z1 z2
    match hb : H b with
    | none => rfl
    | some u =>
      obtain rfl := atA hb
      rw [ha] at z1
      obtain rfl := Option.some.inj z1
      exact nomatch z2
  have nsUp : ∀ {b : Addr} {m : Str → Option Value}, s₁.heap.Ns b m → (hidT s₁.heap H).Ns b m := by
    rintro b m ⟨o, es, n, z1, z2, z3⟩
    exact ⟨o, es, n, hidT_get z1 (dictFree z1 z2), z2, z3⟩
  have inKb : K.In (hidT s₁.heap H) := by
    intro b o z
    refine hidT_get (inK b o z) ?_
    match hb : H b with
    | none => rfl
    | some u =>
      obtain rfl := atA hb
      rw [free (by rw [hb]; exact Option.some_ne_none u)] at z
      exact nomatch z
  obtain ⟨mc, c1, c2⟩ := hlim
  have env0 : Env0 P w K mg (hidT s₁.heap H) callerA [] s₁ H :=
    ⟨rfl, ⟨inKb, nsUp hmod, ⟨mb, nsUp hblt, hall⟩, ⟨mc, nsUp c1, c2⟩⟩, fun b o z => of_hidT z, Nat.le_of_eq (hidT_size _ _), trivial, fun b z => absurd z (by exact List.not_mem_nil), hok, .of_eq gens⟩
  refine codeAny_mono ((F _ inKb (nsUp hmod)).run callerA [] s₁ H ⟨[.ref a], []⟩ [.ref a] [.ref a] _ _ room rfl env0 (hbind s₁ (.ref a)) (.cons rfl .nil) want) fun res s2 out => ?_
  match res, out with
  | .error _, out => exact out.elim
  | .ok .next, out => exact out.elim
  | .ok .brk, out => exact out.elim
  | .ok .cont, out => exact out.elim
  | .ok (.ret u), ⟨v, H2, os2, bare2, un2, hok2, rel2, (ev : v = .bl true)⟩ =>
    subst ev
    obtain rfl : u = Value.bool true := rel2
    refine ⟨rfl, OldK.of_keep fun b o z => ?_, os2, bare2⟩
    match hb : H b with
    | none => exact un2.keep b o z hb (fun y => absurd y (by exact List.not_mem_nil)) (by exact List.not_mem_nil)
    | some u =>
      rcases only b with y | ⟨ob, xs, y⟩
      · rw [hb] at y
        exact nomatch y
      · obtain ⟨z1, _⟩ := hok b _ y
        obtain ⟨z2, _⟩ := hok2 b _ (un2.frzs b ob _ y)
        rw [z] at z1
        obtain rfl := Option.some.inj z1
        exact z2
theorem law_go (inK : K.In s₁.heap) (hmod : s₁.heap.Ns mainGlobals mg) (hblt : s₁.heap.Ns builtinsNs mb) (hall : ∀ x : Str, x ≠ "__name__" → mb x = bootBuiltins x) (hlim : s₁.heap.NoLimit) (gens : s₁.gens = #[])
    (ha : s₁.heap.get? a = some { cls := .type "list", data := .seq vs.toArray }) (hi : IntsAre vs ns) (hl : ns.length ≤ sizeLine) (room : Room k callerA) (F : ∀ base : Heap, K.In base → base.Ns mainGlobals mg → FnG P w K mg base CX0 k fa fd [x] sp)
    (hbind : ∀ (s : Shared) (u : Value), BindsTo s fd ⟨[u], []⟩ [(x, u)]) (want : ∀ H : Hp, Only H → SqL K H a (ns.map V.int) → sp [.ref a] H (fun v _ => v = .bl true) fun _ _ _ => False) :
    codeAny (model P w) callerA (.call (.ref fa) ⟨[.ref a], []⟩) (fun r s' => r = .ok (.ret (.bool true)) ∧ OldK s₁.heap s'.heap ∧ s'.os = s₁.os ∧ AllBare s'.gens) s₁ := by
  have rv := vals_ints hi
  match hk : K.lookup a with
  | some o =>
    have z := inK a o hk
    rw [ha] at z
    obtain rfl := Option.some.inj z
    refine law_from (H := fun _ => none) inK hmod hblt hall hlim gens ha room F hbind (fun _ => .inl rfl) (want _ (fun _ => .inl rfl) (.inr ⟨_, vs.toArray, _, hk, rfl, rfl, rfl, ?_, by simpa using rv⟩)) (fun b u y => nomatch y) (fun b y => absurd rfl y) fun y => absurd rfl y
    rw [List.size_toArray, hi.length]
    exact hl
  | none =>
    let H0 : Hp := fun b => if b = a then some (.frz { cls := .type "list", data := .seq vs.toArray } (.lst (ns.map V.int))) else none
    have at0 : H0 a = some (.frz { cls := .type "list", data := .seq vs.toArray } (.lst (ns.map V.int))) := if_pos rfl
    have off : ∀ {b : Addr}, b ≠ a → H0 b = none := fun n => if_neg n
    have o0 : Only H0 := fun b => by
      by_cases n : b = a
      · exact .inr ⟨_, _, if_pos n⟩
      · exact .inl (off n)
    refine law_from (H := H0) inK hmod hblt hall hlim gens ha room F hbind o0 (want H0 o0 (.inl (.inr ⟨_, at0⟩))) (fun b u y => ?_) (fun b y => ?_) fun _ => hk
    · by_cases n : b = a
      · subst n
        rw [at0] at y
        obtain rfl := Option.some.inj y
        exact ⟨ha, by rw [List.length_map]; exact hl, vs, _, rv, ha⟩
      · rw [off n] at y
        exact nomatch y
    · by_cases n : b = a
      · exact n
      · exact absurd (off n) y
end
theorem walk_G {l : PySem.W.OpenLaw} {n k : Nat} {q : Program} {loose : List Str} {XP : (Str → Option Value) → Heap → Prop} {YP : World → Heap → Prop} {d : DefRec} {K : Params → PySem.W.Frag} {sp : World → Sp} {x : Str} (hn : l.most = some n) (hn2 : n ≤ sizeLine)
    (hdf : d.params.defaults = []) (room : Room k callerA) (hY : ∀ (w : World) (h : Heap), YP w h → (K w.params).In h)
    (F : ∀ (w : World) (mg : Str → Option Value) (fa : Addr) (h : Heap), (K w.params).In h → h.Ns mainGlobals mg → mg d.name = some (.ref fa) → ∃ fd : FuncData, (∀ (s : Shared) (u : Value), BindsTo s fd ⟨[u], []⟩ [(x, u)]) ∧
      ∀ base : Heap, (K w.params).In base → base.Ns mainGlobals mg → FnG l.prog w (K w.params) mg base CX0 k fa fd [x] (sp w))
    (want : ∀ (w : World) (H : Hp) (a : Addr) (ns : List Int), ns.length ≤ n → Only H → SqL (K w.params) H a (ns.map V.int) → sp w [.ref a] H (fun v _ => v = .bl true) fun _ _ _ => False) :
    PySem.W.WalkO q loose XP YP l.row.toRowW d [] (fun f vs => PySem.call f vs) := by
  refine Att.attach_call hn hdf fun w s₀ s₁ mg mb fa o pm cd doc a vs ns G Y ho hd hcd hmg hobj hints hlen hg => ?_
  obtain ⟨fd, hb, hF⟩ := F w mg fa _ (hY w _ Y) G.T.g hmg
  exact law_go (hY w _ Y) G.T.g G.T.b G.T.builtins G.T.nolimit hg hobj hints (Nat.le_trans hlen hn2) room hF hb fun H o1 o2 => want w H a ns hlen o1 o2
end WH
namespace WH
open PySem PySem.Spec PyProof.Rows L2
/-! ### how long a repr can be -/
theorem fits2 {d : PyData} (hl : d.leavesShort 2000 = true) (hw : d.weight ≤ 8000) : d.shown.length ≤ sizeLine := by
  have h1 := PyData.shown_le 2000 (by decide) d hl
  have h2 : (2000 + 2) * d.weight ≤ 2002 * 8000 := Nat.mul_le_mul_left _ hw
  rw [sizeLine_eq]
  omega
theorem short_str {x : Str} (h : PyData.strOk x = true) : PyData.leavesShort 2000 (.str x) = true := by
  unfold PyData.strOk at h
  rw [← Array.all_toList, List.all_eq_true] at h
  simp only [PyData.leavesShort]
  rw [List.all_eq_true]
  intro c hc
  have := of_decide_eq_true (h c hc)
  exact decide_eq_true (by omega)
theorem short_strs : ∀ {ws : List Str}, SOk ws → PyData.leavesShortAll 2000 (dStrs ws) = true
  | [], _ => by simp [dStrs, PyData.leavesShortAll]
  | x :: r, h => by
    have ih := short_strs (ws := r) fun y hy => h y (List.mem_cons_of_mem _ hy)
    have hx := short_str (h x List.mem_cons_self)
    unfold dStrs at ih ⊢
    rw [List.map_cons]
    simp only [PyData.leavesShortAll, hx, ih, Bool.and_self]
theorem weight_strs (m : Nat) : ∀ {ws : List Str}, (∀ x ∈ ws, x.length ≤ m) → PyData.weightAll (dStrs ws) ≤ ws.length * (m + 2)
  | [], _ => by simp [dStrs, PyData.weightAll]
  | x :: r, h => by
    have ih := weight_strs m (ws := r) fun y hy => h y (List.mem_cons_of_mem _ hy)
    have hx : x.cps.size ≤ m := h x List.mem_cons_self
    unfold dStrs at ih ⊢
    rw [List.map_cons]
    simp only [PyData.weightAll, PyData.weight, List.length_cons, Nat.add_mul]
    omega
theorem showable_strs : ∀ {ws : List Str}, PyData.showableAll (dStrs ws) = true
  | [] => by simp [dStrs, PyData.showableAll]
  | x :: r => by
    have ih := showable_strs (ws := r)
    unfold dStrs at ih ⊢
    rw [List.map_cons]
    simp only [PyData.showableAll, PyData.showable, ih, Bool.and_self]
theorem nodict_strs : ∀ {ws : List Str}, PyData.hasDictAll (dStrs ws) = false
  | [] => by simp [dStrs, PyData.hasDictAll]
  | x :: r => by
    have ih := nodict_strs (ws := r)
    unfold dStrs at ih ⊢
    rw [List.map_cons]
    simp only [PyData.hasDictAll, PyData.hasDict, ih, Bool.or_self]
/-- what repr asks of a list of texts -/
theorem repr_strs {K : PySem.W.Frag} {H : Hp} {a : Addr} {ws : List Str} (h : SqL K H a (ws.map V.str)) (sok : SOk ws) (m : Nat) (hm : ∀ x ∈ ws, x.length ≤ m) (hw : ws.length * (m + 2) ≤ 7000) :
    Dp K H (.ref a) (.list (dStrs ws)) ∧ (PyData.list (dStrs ws)).showable = true ∧ (PyData.list (dStrs ws)).hasDict = false ∧ (PyData.list (dStrs ws)).depth ≤ 60 ∧ (PyData.list (dStrs ws)).shown.length ≤ sizeLine := by
  have hd := depth_strs ws
  have hwt := weight_strs m hm
  refine ⟨dp_lst h, by simp only [PyData.showable, showable_strs], by simp only [PyData.hasDict, nodict_strs], ?_, fits2 ?_ ?_⟩
  · simp only [PyData.depth]
    omega
  · simp only [PyData.leavesShort, short_strs sok]
  · simp only [PyData.weight]
    omega
end WH
namespace WH
open PySem PySem.Spec PyProof.Rows L2
def topS (i : Nat) : Stmt := PySem.Challenge.pw_wordhulls_k02_stocks_as_passed.main.body.getD i (.Pass ⟨0, 0, 0, 0⟩)
abbrev sEInit : Stmt := inClass (topS 1) 0
abbrev sIsLetters : Stmt := topS 7
abbrev sIsWord : Stmt := topS 8
abbrev sSInit : Stmt := inClass (topS 11) 0
abbrev sSEq : Stmt := inClass (topS 11) 1
abbrev sSWords : Stmt := inClass (topS 11) 2
abbrev sCheckWords : Stmt := topS 12
abbrev sPool : Stmt := topS 14
abbrev sDraw : Stmt := topS 15
abbrev sWord : Stmt := topS 16
abbrev sLot : Stmt := topS 17
abbrev sKnown : Stmt := topS 18
abbrev sFits : Stmt := topS 19
abbrev sLaw : Stmt := topS 20
section
variable {P : Program} {w : World} {K : PySem.W.Frag} {mg : Str → Option Value} {base : Heap}
theorem scIsLetters : FnScope ["text", "sign"] ["text"] (defScope sIsLetters) := ⟨rfl, rfl, rfl, by decide +kernel, rfl, by decide +kernel, by decide +kernel⟩
def spIsLetters : Sp := fun vs H Q _ => ∃ z : Str, vs = [.str z] ∧ z.length ≤ 100000 ∧ ∀ H', Same H H' → Q (.bl (isL z)) H'
theorem ok_isLetters {f : Addr} {fd : FuncData} {k : Nat} (F : Fun K "is_letters" "is_letters" sIsLetters f fd) (mL : mg "LETTERS" = some (.str LET t)) (ma : mg "all" = none) : FnOk P w K mg base CX0 (k + 1) f fd ["text"] spIsLetters := by
  refine F.ok scIsLetters (fun vs H Q E h => ?_) (fun cdv A outer s H vs Q E hr h => ?_)
  · obtain ⟨z, rfl, _⟩ := h
    rfl
  · obtain ⟨z, rfl, hz, q⟩ := h
    refine ⟨_, pss_one (ps_ret (pe_callB (cr_all rfl) (by rfl) ma (by decide +kernel) (pa_cons
      (pe_lc (own := [("sign", 1)]) (g := gName 1) (tt := tYes) rfl scIsLetters.nd (pi_str (pv 0)) (blkOk_by (N := ["text", "sign"]) (sc := defScope sIsLetters) (by decide +kernel))
        (fun _ _ _ _ _ => pg_name (i := 1) scIsLetters.nd rfl (Or.inl rfl)) (fun _ _ _ _ _ => pts_nil)
        (fun _ _ _ _ _ => pe_cmpR op_in_sign (pv 1) (pe_glob (v := .str LET) rfl mL ⟨_, rfl⟩) rfl)) pa_nil))), ?_⟩
    refine ⟨.str z, rfl, z, rfl, fun D hD => ?_⟩
    refine lc_fm walk_str (fun i => some (.bl (decide (z.cps.getD i 0 ∈ LET.cps.toList)))) (Nat.lt_of_le_of_lt hz (by decide)) hD (fun _ _ => trivial) ?_ ?_
    · rintro i x H1 H2 N hi s1 ⟨rfl, c, hc, rfl⟩ hN
      refine ⟨rfl, ?_⟩
      refine yesT ?_
      refine ⟨_, rfl, c, LET, rfl, rfl, ?_⟩
      rw [← getD_at hi hc]
      exact hN _ (Same.refl _)
    · intro H1 s1 h1
      rw [fmr_isL] at h1
      refine ⟨D, _, rfl, SqL.of h1, ?_⟩
      rw [all_isL]
      exact q _ s1

theorem scIsWord : FnScope ["text"] ["text"] (defScope sIsWord) := ⟨rfl, rfl, rfl, by decide +kernel, rfl, by decide +kernel, by decide +kernel⟩
def spIsWord : Sp := fun vs H Q _ => ∃ z : Str, vs = [.str z] ∧ z.length ≤ 100000 ∧ ∀ H', Same H H' → Q (.bl (isW z)) H'
theorem ok_isWord {f fL : Addr} {fd fdL : FuncData} {k : Nat} {t : Tok} (F : Fun K "is_word" "is_word" sIsWord f fd) (G : FnOk P w K mg base CX0 k fL fdL ["text"] spIsLetters) (bL : Binds K fdL ["text"] []) (kL : PySem.W.keepIn K (.ref fL) = true) (gL : mg "is_letters" = some (.ref fL))
    (mM : mg "MOST_LETTERS" = some (.int 8 t)) (ml : mg "len" = none) : FnOk P w K mg base CX0 (k + 1) f fd ["text"] spIsWord := by
  refine F.ok scIsWord (fun vs H Q E h => ?_) (fun cdv A outer s H vs Q E hr h => ?_)
  · obtain ⟨z, rfl, _⟩ := h
    rfl
  · obtain ⟨z, rfl, hz, q⟩ := h
    have hs : z.length ≤ sizeLine := Nat.le_trans hz (by decide)
    refine ⟨_, pss_one (ps_ret (pe_and (pe_chain op_le op_le pe_int (pe_callB call_len_str (by rfl) ml PySem.boot_len (pa_cons (pv 0) pa_nil)) (pe_glob (v := .int 8) rfl mM ⟨_, rfl⟩))
      (pe_one (pe_call G hr (by rfl) gL kL bL .nil pass0 (pa_cons (pv 0) pa_nil))))), ?_⟩
    refine ⟨_, rfl, z, rfl, hs, _, _, rfl, rfl, _, rfl, ?_⟩
    by_cases h1 : (1 : Int) ≤ (z.length : Int)
    · rw [decide_eq_true h1]
      refine iteT ?_
      refine ⟨_, _, rfl, rfl, _, rfl, ?_⟩
      by_cases h2 : (z.length : Int) ≤ 8
      · rw [decide_eq_true h2]
        refine iteT ?_
        refine ⟨_, rfl, z, rfl, hz, fun H' s' => ?_⟩
        have e : isW z = isL z := by
          unfold isW
          rw [decide_eq_true (show 1 ≤ z.length by omega), decide_eq_true (show z.length ≤ 8 by omega)]
          rfl
        rw [← e]
        exact q _ s'
      · rw [decide_eq_false h2]
        refine iteF ?_
        have e : isW z = false := by
          unfold isW
          rw [decide_eq_false (show ¬ z.length ≤ 8 by omega)]
          simp
        rw [← e]
        exact q _ (Same.refl _)
    · rw [decide_eq_false h1]
      refine iteF ?_
      refine ⟨_, rfl, iteF ?_⟩
      have e : isW z = false := by
        unfold isW
        rw [decide_eq_false (show ¬ 1 ≤ z.length by omega)]
        simp
      rw [← e]
      exact q _ (Same.refl _)
/-- a stock's words -/
structure Good (ws : List Str) : Prop where
  w : ∀ x ∈ ws, isW x = true
  nd : ws.Nodup
  lo : 1 ≤ ws.length
  hi : ws.length ≤ 8
theorem isW_len {x : Str} (h : isW x = true) : 1 ≤ x.length ∧ x.length ≤ 8 := by
  unfold isW at h
  simp only [Bool.and_eq_true, decide_eq_true_eq] at h
  exact h.1
theorem map_at {ws : List Str} {i : Nat} {y : V} (h : (ws.map V.str)[i]? = some y) : ∃ x, ws[i]? = some x ∧ y = .str x := by
  rw [List.getElem?_map] at h
  cases e : ws[i]? with
  | none =>
    rw [e] at h
    cases h
  | some x =>
    rw [e] at h
    exact ⟨x, rfl, (Option.some.inj h).symm⟩
theorem take_snoc {α : Type} {l : List α} {i : Nat} {x : α} (h : l[i]? = some x) : l.take (i + 1) = l.take i ++ [x] := by
  rw [List.take_add_one, h]
  rfl
theorem nd_notin {ws : List Str} {i : Nat} {x : Str} (nd : ws.Nodup) (h : ws[i]? = some x) : x ∉ ws.take i := by
  intro hm
  obtain ⟨j, hj⟩ := List.mem_iff_getElem?.mp hm
  have hji : j < i := by
    have := (List.getElem?_eq_some_iff.mp hj).1
    rw [List.length_take] at this
    omega
  rw [List.getElem?_take_of_lt hji] at hj
  obtain ⟨h1, e1⟩ := List.getElem?_eq_some_iff.mp hj
  obtain ⟨h2, e2⟩ := List.getElem?_eq_some_iff.mp h
  have e3 : ws[j] ≠ ws[i] := List.pairwise_iff_getElem.mp nd j i h1 h2 hji
  exact e3 (e1.trans e2.symm)
theorem scCheckWords : FnScope ["words", "seen", "word"] ["words"] (defScope sCheckWords) := ⟨rfl, rfl, rfl, by decide +kernel, rfl, by decide +kernel, by decide +kernel⟩
def spCheckWords (K : PySem.W.Frag) : Sp := fun vs H Q _ => ∃ (a : Addr) (ws : List Str), vs = [.ref a] ∧ SqL K H a (ws.map V.str) ∧ Good ws ∧ ∀ H', Same H H' → Q .non H'
theorem ok_checkWords {f fL : Addr} {fd fdL : FuncData} {k : Nat} {t : Tok} (F : Fun K "check_words" "check_words" sCheckWords f fd) (G : FnOk P w K mg base CX0 k fL fdL ["text"] spIsWord) (bL : Binds K fdL ["text"] []) (kL : PySem.W.keepIn K (.ref fL) = true) (gL : mg "is_word" = some (.ref fL))
    (mM : mg "MOST_WORDS" = some (.int 8 t)) (ml : mg "len" = none) (mset : mg "set" = none) : FnOk P w K mg base CX0 (k + 1) f fd ["words"] (spCheckWords K) := by
  refine F.ok scCheckWords (fun vs H Q E h => ?_) (fun cdv A outer s H vs Q E hr h => ?_)
  · obtain ⟨z, ws, rfl, _⟩ := h
    rfl
  · obtain ⟨a, ws, rfl, hS, g, q⟩ := h
    refine ⟨_, pss_cons (ps_set (i := 1) scCheckWords.nd rfl (Or.inl rfl) (pe_callTy0 cr_set0K (by rfl) mset (by decide +kernel)))
      (pss_cons (ps_for PassesOwn.never rfl (pi_list (pv 0)) (pg_name (i := 2) scCheckWords.nd rfl (Or.inl rfl))
        (pss_cons (ps_if (PW.pt (pw_or (pt_not (pt_val (pe_call G hr (by rfl) gL kL bL .nil pass0 (pa_cons (pv 2) pa_nil)))) (pw_or1 (pt_cmpR or_sinK (pv 2) (pv 1) rfl)))) (pss_one ps_never) pss_nil)
          (pss_one (ps_expr (pe_saddK (pv 1) (pa_cons (pv 2) pa_nil))))))
      (pss_one (ps_if (pt_not (pt_chain op_le op_le pe_int (pe_callB call_len_seq (by rfl) ml PySem.boot_len (pa_cons (pv 0) pa_nil)) (pe_glob (v := .int 8) rfl mM ⟨_, rfl⟩))) (pss_one ps_never) pss_nil))), ?_⟩
    refine ⟨rfl, fun p np => ?_⟩
    have s1 : Same H (upd H p (SetK P w p (fun _ => false) 0)) := same_upd np
    refine ⟨_, rfl, a, rfl, ⟨_, s1.seq hS⟩, for_list (K := K) (a := a) (xs := ws.map V.str) (fun i σ H2 => ∃ (v : Option V) (S : Key → Bool) (n : Nat), σ = [some (.ref a), some (.ref p), v] ∧ Same H H2 ∧ H2 p = some (SetK P w p S n) ∧ n ≤ i ∧ ∀ x, S (.inr x) = decide (x ∈ ws.take i))
      ⟨none, fun _ => false, 0, rfl, s1, upd_same, Nat.le_refl _, fun x => by simp⟩ (fun i σ H2 _ ⟨_, _, _, _, s2, _⟩ => s2.seq hS) ?_ ?_⟩
    · rintro i y σ H2 hi ⟨v, S, n, rfl, s2, hp, hn, hSx⟩
      obtain ⟨x, hx, rfl⟩ := map_at hi
      have hil : i < ws.length := (List.getElem?_eq_some_iff.mp hx).1
      have hw := g.w x (List.mem_of_getElem? hx)
      have h8 := g.hi
      refine ⟨_, rfl, x, rfl, Nat.le_trans (isW_len hw).2 (by decide), fun H3 s3 => ⟨_, rfl, ?_⟩⟩
      rw [hw]
      refine iteF ?_
      have hp3 := s3 _ _ hp
      refine ⟨_, rfl, _, rfl, Sum.inr x, p, S, n, rfl, rfl, hp3, _, rfl, ?_⟩
      have hf : S (.inr x) = false := by
        rw [hSx]
        exact decide_eq_false (nd_notin g.nd hx)
      rw [if_neg Bool.false_ne_true, hf]
      refine iteF ?_
      refine ⟨_, rfl, ⟨p, S, n, rfl, hp3⟩, _, rfl, p, Sum.inr x, S, n, rfl, rfl, hp3, Nat.lt_of_lt_of_le (show n + 1 < 100 by omega) (by decide), ?_⟩
      refine ⟨_, _, _, rfl, same_set (s2.trans s3) np, upd_same, ?_, fun y => ?_⟩
      · rw [hf]
        simp
        omega
      · rw [take_snoc hx, hSx]
        simp
    · rintro σ H2 ⟨v, S, n, rfl, s2, _⟩
      have g1 := g.lo
      have g8 := g.hi
      refine ⟨_, rfl, a, _, rfl, .inl (s2.seq hS), _, _, rfl, rfl, _, rfl, ?_⟩
      rw [decide_eq_true (show (1 : Int) ≤ ((ws.map V.str).length : Nat) by rw [List.length_map]; omega)]
      refine iteT ?_
      refine ⟨_, _, rfl, rfl, _, rfl, ?_⟩
      rw [decide_eq_true (show (((ws.map V.str).length : Nat) : Int) ≤ 8 by rw [List.length_map]; omega)]
      refine iteF ?_
      exact q _ s2

/-! ### stocks -/
def fW (t : Addr) : List (Str × V) := putF "_words" (.ref t) []
theorem fW_get (t : Addr) : (fW t).lookup ("_words" : Str) = some (.ref t) := by
  unfold fW
  rw [lookup_putF, if_pos rfl]
def StkAt (C : Addr) (H : Hp) (p : Addr) (ws : List Str) : Prop := ∃ dx t, H p = some (.ins C dx (fW t)) ∧ H t = some (.tup (ws.map V.str))
theorem StkAt.same {C : Addr} {H H' : Hp} {p : Addr} {ws : List Str} (h : StkAt C H p ws) (s : Same H H') : StkAt C H' p ws := by
  obtain ⟨dx, t, h1, h2⟩ := h
  exact ⟨dx, t, s _ _ h1, s _ _ h2⟩
structure StkC (K : PySem.W.Frag) (mg : Str → Option Value) (C fi fe fw : Addr) : Prop where
  cl : Cls K C
  nW : NoAttr K C "_words"
  mgC : mg "Stock" = some (.ref C)
  made : Mk K C fi
  eqc : EqCls K C fe
  prop : ∃ p, PropOf K C "words" p fw
  ha : PySem.W.findIn K (.ref C) "__class__" = some (some (.builtin "object.__class__"))
  hn : PySem.W.specialIn K (.builtin "object.__class__") "__get__" = some (some (.builtin "getset_descriptor.__get__"))
  htk : PySem.W.takesIn K (.builtin "object.__class__") = some true
  hm : PySem.W.mroIn K C (.type "object") = some true
  ki : PySem.W.kitOne K (.ref C) (.ref C) = some true
theorem StkC.ty {C fi fe fw p : Addr} {H : Hp} {ws : List Str} (T : StkC K mg C fi fe fw) (h : StkAt C H p ws) : TyX K H (.ref p) (.ref C) := by
  obtain ⟨dx, t, h1, _⟩ := h
  exact .base (.ins h1 T.cl T.ha T.hn T.htk T.hm)
theorem scSInit : FnScope ["self", "words"] ["self", "words"] (defScope sSInit) := ⟨rfl, rfl, rfl, by decide +kernel, rfl, by decide +kernel, by decide +kernel⟩
def spSInit (K : PySem.W.Frag) (C : Addr) : Sp := fun vs H Q _ => ∃ (p dx a : Addr) (ws : List Str), vs = [.ref p, .ref a] ∧ H p = some (.ins C dx []) ∧ SqL K H a (ws.map V.str) ∧ Good ws ∧
  ∀ H', StkAt C H' p ws → (∀ b o, H b = some o → b ≠ p → H' b = some o) → Q .non H'
theorem ok_sinit {f fL C fi fe fw : Addr} {fd fdL : FuncData} {k : Nat} (F : Fun K "__init__" "Stock.__init__" sSInit f fd) (T : StkC K mg C fi fe fw) (G : FnOk P w K mg base CX0 k fL fdL ["words"] (spCheckWords K)) (bL : Binds K fdL ["words"] []) (kL : PySem.W.keepIn K (.ref fL) = true) (gL : mg "check_words" = some (.ref fL))
    (mt : mg "tuple" = none) : FnOk P w K mg base CX0 (k + 1) f fd ["self", "words"] (spSInit K C) := by
  refine F.ok scSInit (fun vs H Q E h => ?_) (fun cdv A outer s H vs Q E hr h => ?_)
  · obtain ⟨p, dx, a, ws, rfl, _⟩ := h
    rfl
  · obtain ⟨p, dx, a, ws, rfl, hp, hS, g, q⟩ := h
    refine ⟨_, pss_cons (ps_expr (pe_call G hr (by rfl) gL kL bL .nil pass0 (pa_cons (pv 1) pa_nil)))
      (pss_one (ps_fld (pv 0) (pe_callTy call_tuple_of (by rfl) mt (by decide +kernel) (pa_cons (pv 1) pa_nil)) rfl)), ?_⟩
    refine ⟨_, rfl, a, ws, rfl, hS, g, fun H1 s1 => ?_⟩
    refine ⟨_, rfl, a, _, rfl, .inl ⟨s1.seq hS, fun l nl => ?_⟩⟩
    have npl : p ≠ l := ne_of_none (s1 _ _ hp) nl
    refine ⟨_, rfl, p, C, dx, [], rfl, (by rw [upd_ne npl]; exact s1 _ _ hp), T.cl, T.nW, (by show 0 < 1000; decide), ?_⟩
    refine q _ ⟨dx, l, upd_same, by rw [upd_ne npl.symm, upd_same]⟩ fun b o e hb => ?_
    rw [upd_ne hb]
    exact same_set s1 (s1.free nl) b o e
theorem scSEq : FnScope ["self", "other"] ["self", "other"] (defScope sSEq) := ⟨rfl, rfl, rfl, by decide +kernel, rfl, by decide +kernel, by decide +kernel⟩
def spSEq (C : Addr) : Sp := fun vs H Q _ => ∃ (p r : Addr) (ws zs : List Str), vs = [.ref p, .ref r] ∧ StkAt C H p ws ∧ StkAt C H r zs ∧ Good ws ∧ Good zs ∧ ∀ H', Same H H' → Q (.bl (decide (ws = zs))) H'
theorem Good.sok {ws : List Str} (g : Good ws) : SOk ws := fun x hx => sok_isW (g.w x hx)
theorem ok_seq {f C fi fe fw : Addr} {fd : FuncData} {k : Nat} (F : Fun K "__eq__" "Stock.__eq__" sSEq f fd) (T : StkC K mg C fi fe fw) (mi : mg "isinstance" = none) : FnOk P w K mg base CX0 (k + 1) f fd ["self", "other"] (spSEq C) := by
  refine F.ok scSEq (fun vs H Q E h => ?_) (fun cdv A outer s H vs Q E hr h => ?_)
  · obtain ⟨p, r, ws, zs, rfl, _⟩ := h
    rfl
  · obtain ⟨p, r, ws, zs, rfl, hp, hz, g1, g2, q⟩ := h
    have ty := T.ty hz
    obtain ⟨dx, t, h1, h2⟩ := hp
    obtain ⟨dz, u, h3, h4⟩ := hz
    refine ⟨_, pss_one (ps_ret (pe_and (pe_callB call_isi (by rfl) mi (by decide +kernel) (pa_cons (pv 1) (pa_cons (pe_glob (v := .ref C) rfl T.mgC rfl) pa_nil)))
      (pe_one (pe_cmpR (op_eqD hr.units) (pe_fld (pv 0) rfl) (pe_fld (pv 1) rfl) (nomark _))))), ?_⟩
    refine ⟨_, rfl, _, _, _, _, _, rfl, .own C, ty, T.ki, _, rfl, ?_⟩
    refine iteT ?_
    refine ⟨_, rfl, p, C, dx, _, _, rfl, h1, T.cl, T.nW, fW_get _, _, rfl, r, C, dz, _, _, rfl, h3, T.cl, T.nW, fW_get _, _, _, dp_tup (SqT.of h2), dp_tup (SqT.of h4), sh_tup g1.sok, sh_tup g2.sok, ?_⟩
    rw [eqv_tup]
    exact q _ (Same.refl _)
theorem scSWords : FnScope ["self"] ["self"] (defScope sSWords) := ⟨rfl, rfl, rfl, by decide +kernel, rfl, by decide +kernel, by decide +kernel⟩
def spSWords (C : Addr) : Sp := fun vs H Q _ => ∃ (p : Addr) (ws : List Str), vs = [.ref p] ∧ StkAt C H p ws ∧ ∀ l H', H l = none → Same H H' → H' l = some (.lst (ws.map V.str)) → Q (.ref l) H'
theorem ok_swords {f C fi fe fw : Addr} {fd : FuncData} {k : Nat} (F : Fun K "words" "Stock.words" sSWords f fd) (T : StkC K mg C fi fe fw) (ml : mg "list" = none) : FnOk P w K mg base CX0 (k + 1) f fd ["self"] (spSWords C) := by
  refine F.ok scSWords (fun vs H Q E h => ?_) (fun cdv A outer s H vs Q E hr h => ?_)
  · obtain ⟨p, ws, rfl, _⟩ := h
    rfl
  · obtain ⟨p, ws, rfl, ⟨dx, t, h1, h2⟩, q⟩ := h
    refine ⟨_, pss_one (ps_ret (pe_callTy call_list_of (by rfl) ml (by decide +kernel) (pa_cons (pe_fld (pv 0) rfl) pa_nil))), ?_⟩
    refine ⟨_, rfl, p, C, dx, _, _, rfl, h1, T.cl, T.nW, fW_get _, t, _, rfl, .inr (SqT.of h2), fun l nl => ?_⟩
    exact q l _ nl (same_upd nl) upd_same
/-- Stock(ws): for the reading of pe_make -/
theorem mk_stock {C a : Addr} {ws : List Str} {H : Hp} {Q : VK} {E : XK} (hS : SqL K H a (ws.map V.str)) (g : Good ws) (q : ∀ x H', H x = none → Same H H' → StkAt C H' x ws → Q (.ref x) H') :
    ∀ x dx, H x = none → H dx = none → dx ≠ x → spSInit K C (.ref x :: ([.ref a] ++ [])) (upd (upd H dx (.own x)) x (.ins C dx [])) (fun v H2 => v = .non ∧ Q (.ref x) H2) E := by
  intro x dx nx ndx nex
  have s0 : Same H (upd (upd H dx (.own x)) x (.ins C dx [])) := same_set (same_upd ndx) nx
  exact ⟨x, dx, a, ws, rfl, upd_same, s0.seq hS, g, fun H' st kp => ⟨rfl, q x H' nx (fun b o e => kp b o (s0 b o e) (ne_of_none e nx)) st⟩⟩
end

def SameBut (p : Addr) (H H' : Hp) : Prop := ∀ b o, b ≠ p → H b = some o → H' b = some o
theorem SameBut.refl {p : Addr} {H : Hp} : SameBut p H H := fun _ _ _ h => h
theorem SameBut.trans {p : Addr} {H H1 H2 : Hp} (a : SameBut p H H1) (b : SameBut p H1 H2) : SameBut p H H2 := fun c o n h => b c o n (a c o n h)
theorem SameBut.free {p l : Addr} {H H' : Hp} (s : SameBut p H H') (n : l ≠ p) (h : H' l = none) : H l = none := by
  cases q : H l with
  | none => rfl
  | some o =>
    rw [s l o n q] at h
    cases h
theorem Same.but {p : Addr} {H H' : Hp} (s : Same H H') : SameBut p H H' := fun b o _ h => s b o h
/-- what is at the pool: three numbers, at most n drawn ones -/
def PoolAt (H : Hp) (p : Addr) (n : Int) : Prop := ∃ p0 p1 p2 : Int, H p = some (.lst [.int p0, .int p1, .int p2]) ∧ 0 ≤ p0 ∧ 0 ≤ p1 ∧ p1 < 4611686018427387904 ∧ 0 ≤ p2 ∧ p2 ≤ n
theorem PoolAt.same {H H' : Hp} {p : Addr} {n : Int} (h : PoolAt H p n) (s : Same H H') : PoolAt H' p n := by
  obtain ⟨a, b, c, h1, h2⟩ := h
  exact ⟨a, b, c, s _ _ h1, h2⟩
theorem PoolAt.le {H : Hp} {p : Addr} {n m : Int} (h : PoolAt H p n) (l : n ≤ m) : PoolAt H p m := by
  obtain ⟨a, b, c, h1, h2, h3, h4, h5, h6⟩ := h
  exact ⟨a, b, c, h1, h2, h3, h4, h5, by omega⟩
theorem atI_int {α : Type} {xs : List α} {e : Int} (h0 : 0 ≤ e) (h : e.toNat < xs.length) : atI xs e = some xs[e.toNat] := by
  have e1 : (e.toNat : Int) = e := by omega
  have := atI_nat (List.getElem?_eq_getElem h)
  rwa [e1] at this
theorem at0 {x y z : V} : atI [x, y, z] 0 = some x := atI_nat (j := 0) rfl
theorem at1 {x y z : V} : atI [x, y, z] 1 = some y := atI_nat (j := 1) rfl
theorem at2 {x y z : V} : atI [x, y, z] 2 = some z := atI_nat (j := 2) rfl
section
variable {P : Program} {w : World} {K : PySem.W.Frag} {mg : Str → Option Value} {base : Heap}
theorem scPool : FnScope ["script", "spot", "cell"] ["script", "spot"] (defScope sPool) := ⟨rfl, rfl, rfl, by decide +kernel, rfl, by decide +kernel, by decide +kernel⟩
def spPool (K : PySem.W.Frag) : Sp := fun vs H Q _ => ∃ (a : Addr) (ns : List Int) (i : Nat), vs = [.ref a, .int i] ∧ SqL K H a (ns.map V.int) ∧ i ≤ 100 ∧ ∀ p H', H p = none → Same H H' → PoolAt H' p 0 → Q (.ref p) H'
structure Bu (mg : Str → Option Value) : Prop where
  len : mg "len" = none
  max : mg "max" = none
  min : mg "min" = none
  abs : mg "abs" = none
  int : mg "int" = none
  range : mg "range" = none
theorem pool_num {x : Int} {i : Nat} (hi : i ≤ 100) : 0 ≤ x.fmod 2305843009213693951 + 7368787 * ((i : Int) + 1) ∧ x.fmod 2305843009213693951 + 7368787 * ((i : Int) + 1) < 4611686018427387904 := by
  rw [Int.fmod_eq_emod_of_nonneg _ (by decide)]
  have h1 := Int.emod_nonneg x (show (2305843009213693951 : Int) ≠ 0 by decide)
  have h2 := Int.emod_lt_of_pos x (show (0 : Int) < 2305843009213693951 by decide)
  omega
theorem ok_pool {f : Addr} {fd : FuncData} {k : Nat} (F : Fun K "_law_pool" "_law_pool" sPool f fd) (B : Bu mg) : FnOk P w K mg base CX0 (k + 1) f fd ["script", "spot"] (spPool K) := by
  refine F.ok scPool (fun vs H Q E h => ?_) (fun cdv A outer s H vs Q E hr h => ?_)
  · obtain ⟨a, ns, i, rfl, _⟩ := h
    rfl
  · obtain ⟨a, ns, i, rfl, hS, hi, q⟩ := h
    refine ⟨_, pss_cons (ps_set (i := 2) scPool.nd rfl (Or.inl rfl) pe_int)
      (pss_cons (ps_if (pt_cmpR op_lt (pv 1) (pe_callB call_len_seq (by rfl) B.len PySem.boot_len (pa_cons (pv 0) pa_nil)) (nomark _))
        (pss_one (ps_set (i := 2) scPool.nd rfl (Or.inl rfl) (pe_ix ix_list (pv 0) (pv 1) (fun _ _ => rfl)))) pss_nil)
      (pss_one (ps_ret (pe_lst (pa_cons (pe_callB (call_max2 rfl) (by rfl) B.max (by decide +kernel) (pa_cons pe_int (pa_cons (pe_op op_sub (pe_callB call_abs (by rfl) B.abs (by decide +kernel) (pa_cons (pv 2) pa_nil)) (pe_op op_pow pe_int pe_int)) pa_nil)))
        (pa_cons (pe_op op_add (pe_op op_modN (pe_callTy call_int1 (by rfl) B.int (by decide +kernel) (pa_cons (pv 2) pa_nil)) pe_int) (pe_op op_mul pe_int (pe_op op_add (pv 1) pe_int)))
        (pa_cons pe_int pa_nil))))))), ?_⟩
    have fin : ∀ x : Int, ∀ (p : Addr), H p = none → Q (.ref p) (upd H p (.lst [.int (if (if x < 0 then -x else x) - 10 ^ (18 : Int).toNat > 0 then (if x < 0 then -x else x) - 10 ^ (18 : Int).toNat else 0), .int (x.fmod 2305843009213693951 + 7368787 * ((i : Int) + 1)), .int 0])) := by
      intro x p np
      have h := pool_num (x := x) hi
      refine q p _ np (same_upd np) ⟨_, _, _, upd_same, ?_, h.1, h.2, by omega, by omega⟩
      split <;> omega
    refine ⟨_, rfl, _, rfl, a, _, rfl, .inl hS, _, _, rfl, rfl, _, rfl, ?_⟩
    by_cases c : (i : Int) < ((ns.map V.int).length : Nat)
    · rw [decide_eq_true c]
      refine iteT ?_
      have hl : i < ns.length := by
        rw [List.length_map] at c
        omega
      refine ⟨_, rfl, _, rfl, a, _, _, .int ns[i], rfl, rfl, hS, atI_nat (by simp [hl]), ?_⟩
      refine ⟨_, rfl, _, rfl, _, _, rfl, rfl, ⟨by decide, by decide, by decide⟩, _, _, rfl, rfl, _, _, rfl, ?_⟩
      exact ⟨_, rfl, .inl ⟨_, rfl, _, _, rfl, rfl, (show (2305843009213693951 : Int) ≠ 0 by decide), _, rfl, _, _, rfl, rfl, _, _, rfl, rfl, .inl ⟨by decide, by decide⟩, _, _, rfl, rfl, (by show 3 ≤ sizeLine; decide), fun p np => fin _ p np⟩⟩
    · rw [decide_eq_false c]
      refine iteF ?_
      refine ⟨_, rfl, _, rfl, _, _, rfl, rfl, ⟨by decide, by decide, by decide⟩, _, _, rfl, rfl, _, _, rfl, ?_⟩
      exact ⟨_, rfl, .inl ⟨_, rfl, _, _, rfl, rfl, (show (2305843009213693951 : Int) ≠ 0 by decide), _, rfl, _, _, rfl, rfl, _, _, rfl, rfl, .inl ⟨by decide, by decide⟩, _, _, rfl, rfl, (by show 3 ≤ sizeLine; decide), fun p np => fin _ p np⟩⟩
theorem scDraw : FnScope ["pool", "span", "drawn", "mixed"] ["pool", "span"] (defScope sDraw) := ⟨rfl, rfl, rfl, by decide +kernel, rfl, by decide +kernel, by decide +kernel⟩
def spDraw : Sp := fun vs H Q _ => ∃ (p : Addr) (k n : Int), vs = [.ref p, .int k] ∧ PoolAt H p n ∧ n < 1000000 ∧ 0 < k ∧ k < 1606938044258990275541962092341162602522202993782792835301376 ∧
  ∀ (d : Int) H', 0 ≤ d → d < k → PoolAt H' p (n + 1) → SameBut p H H' → Q (.int d) H'
theorem fm_lo {x k : Int} (h : 0 < k) : 0 ≤ x.fmod k := by
  rw [Int.fmod_eq_emod_of_nonneg _ (by omega)]
  exact Int.emod_nonneg x (by omega)
theorem fm_hi {x k : Int} (h : 0 < k) : x.fmod k < k := by
  rw [Int.fmod_eq_emod_of_nonneg _ (by omega)]
  exact Int.emod_lt_of_pos x h
theorem but_upd {H : Hp} {p : Addr} {o : HO} : SameBut p H (upd H p o) := fun b x n h => by
  rw [upd_ne n]
  exact h
theorem ok_draw {f : Addr} {fd : FuncData} {k : Nat} (F : Fun K "_law_draw" "_law_draw" sDraw f fd) (B : Bu mg) : FnOk P w K mg base CX0 (k + 1) f fd ["pool", "span"] spDraw := by
  refine F.ok scDraw (fun vs H Q E h => ?_) (fun cdv A outer s H vs Q E hr h => ?_)
  · obtain ⟨p, k, n, rfl, _⟩ := h
    rfl
  · obtain ⟨p, k, n, rfl, ⟨p0, p1, p2, hp, h0, h1, h1', h2, h2'⟩, hn, hk, hk', q⟩ := h
    have L0 : SqL K H p [.int p0, .int p1, .int p2] := SqL.of hp
    refine ⟨_, pss_cons (ps_if (pt_cmpR op_gt (pe_ix ix_list (pv 0) pe_int (fun _ _ => rfl)) pe_int (nomark _))
        (pss_cons (ps_set (i := 2) scDraw.nd rfl (Or.inl rfl) (pe_op op_modN (pe_callTy call_int1 (by rfl) B.int (by decide +kernel) (pa_cons (pe_ix ix_list (pv 0) pe_int (fun _ _ => rfl)) pa_nil)) (pv 1)))
        (pss_cons (ps_asg (pe_op op_fdivW (pe_ix ix_list (pv 0) pe_int (fun _ _ => rfl)) (pv 1)) (pg_sub (pv 0) pe_int set_list))
        (pss_one (ps_ret (pv 2))))) pss_nil)
      (pss_cons (ps_asg (pe_op op_add (pe_ix ix_list (pv 0) pe_int (fun _ _ => rfl)) pe_int) (pg_sub (pv 0) pe_int set_list))
      (pss_cons (ps_set (i := 3) scDraw.nd rfl (Or.inl rfl) (pe_op op_modN (pe_callTy call_int1 (by rfl) B.int (by decide +kernel) (pa_cons (pe_op op_powW (pe_op op_add (pe_ix ix_list (pv 0) pe_int (fun _ _ => rfl)) (pe_op op_mul pe_int (pe_ix ix_list (pv 0) pe_int (fun _ _ => rfl)))) pe_int) pa_nil)) pe_int))
      (pss_cons (ps_set (i := 3) scDraw.nd rfl (Or.inl rfl) (pe_op op_modN (pe_callTy call_int1 (by rfl) B.int (by decide +kernel) (pa_cons (pe_op op_powW (pe_op op_add (pv 3) (pe_op op_mul pe_int (pe_ix ix_list (pv 0) pe_int (fun _ _ => rfl)))) pe_int) pa_nil)) pe_int))
      (pss_one (ps_ret (pe_op op_modN (pe_callTy call_int1 (by rfl) B.int (by decide +kernel) (pa_cons (pe_op op_fdivN (pv 3) pe_int) pa_nil)) (pv 1))))))), ?_⟩
    refine ⟨_, rfl, p, _, _, _, rfl, rfl, L0, at0, _, _, rfl, rfl, _, rfl, ?_⟩
    by_cases c : (0 : Int) < p0
    · rw [decide_eq_true c]
      refine iteT ?_
      refine ⟨_, rfl, p, _, _, _, rfl, rfl, L0, at0, .inl ⟨_, rfl, _, rfl, _, _, rfl, rfl, (by omega), ?_⟩⟩
      refine ⟨_, rfl, p, _, _, _, rfl, rfl, L0, at0, _, rfl, _, _, rfl, rfl, ⟨hk, ?_⟩, ?_⟩
      · exact Nat.lt_of_lt_of_le (PySem.Flt.log2_lt_of (k := 200) (by decide) (by omega)) (by decide)
      refine ⟨_, rfl, p, _, _, 0, rfl, rfl, hp, rfl, ?_⟩
      refine ⟨_, rfl, q _ _ (fm_lo hk) (fm_hi hk) ⟨_, _, _, upd_same, ?_, h1, h1', h2, by omega⟩ but_upd⟩
      exact Int.ediv_nonneg h0 (by omega)
    · rw [decide_eq_false c]
      refine iteF ?_
      refine ⟨_, rfl, p, _, _, _, rfl, rfl, L0, at2, _, _, rfl, rfl, _, rfl, p, _, _, 2, rfl, rfl, hp, rfl, ?_⟩
      have L1 : SqL K (upd H p (.lst [.int p0, .int p1, .int (p2 + 1)])) p [.int p0, .int p1, .int (p2 + 1)] := SqL.of upd_same
      refine ⟨_, rfl, p, _, _, _, rfl, rfl, L1, at1, _, rfl, p, _, _, _, rfl, rfl, L1, at2, _, _, rfl, rfl, .inl ⟨by decide, by decide⟩, _, _, rfl, rfl, _, _, rfl, rfl, ⟨by decide, by decide, ?_⟩, ?_⟩
      · exact log2_small (n := 100) (by omega) (by omega) (by decide) (by decide)
      refine .inl ⟨_, rfl, _, _, rfl, rfl, (show (162259276829213363391578010288127 : Int) ≠ 0 by decide), ?_⟩
      have m0 : 0 ≤ ((p1 + 15485863 * (p2 + 1)) ^ (3 : Int).toNat).fmod 162259276829213363391578010288127 := fm_lo (by decide)
      have m1 : ((p1 + 15485863 * (p2 + 1)) ^ (3 : Int).toNat).fmod 162259276829213363391578010288127 < 162259276829213363391578010288127 := fm_hi (by decide)
      refine ⟨_, rfl, _, rfl, p, _, _, _, rfl, rfl, L1, at2, _, _, rfl, rfl, .inl ⟨by decide, by decide⟩, _, _, rfl, rfl, _, _, rfl, rfl, ⟨by decide, by decide, ?_⟩, ?_⟩
      · exact log2_small (n := 200) (by omega) (by omega) (by decide) (by decide)
      refine .inl ⟨_, rfl, _, _, rfl, rfl, (show (170141183460469231731687303715884105727 : Int) ≠ 0 by decide), ?_⟩
      refine ⟨_, rfl, _, _, rfl, rfl, ⟨by decide, by decide⟩, .inl ⟨_, rfl, _, rfl, _, _, rfl, rfl, (by omega), ?_⟩⟩
      exact q _ _ (fm_lo hk) (fm_hi hk) ⟨_, _, _, upd_same, h0, h1, h1', by omega, by omega⟩ but_upd
theorem scWord : FnScope ["pool", "widest", "signs", "turn"] ["pool", "widest", "signs"] (defScope sWord) := ⟨rfl, rfl, rfl, by decide +kernel, rfl, by decide +kernel, by decide +kernel⟩
def spWord : Sp := fun vs H Q _ => ∃ (p : Addr) (wd n : Int) (sg : Str), vs = [.ref p, .int wd, .str sg] ∧ PoolAt H p n ∧ n < 900000 ∧ 0 < wd ∧ wd ≤ 20 ∧ 0 < sg.length ∧ sg.length ≤ 100 ∧
  ∀ (z : Str) H', 1 ≤ z.length → (z.length : Int) ≤ wd → (∀ c ∈ z.cps.toList, c ∈ sg.cps.toList) → PoolAt H' p (n + 21) → SameBut p H H' → Q (.str z) H'
theorem ok_word {f fd' : Addr} {fd fdd : FuncData} {k : Nat} (F : Fun K "_law_word" "_law_word" sWord f fd) (B : Bu mg) (G : FnOk P w K mg base CX0 k fd' fdd ["pool", "span"] spDraw) (bD : Binds K fdd ["pool", "span"] []) (kD : PySem.W.keepIn K (.ref fd') = true) (gD : mg "_law_draw" = some (.ref fd')) :
    FnOk P w K mg base CX0 (k + 1) f fd ["pool", "widest", "signs"] spWord := by
  refine F.ok scWord (fun vs H Q E h => ?_) (fun cdv A outer s H vs Q E hr h => ?_)
  · obtain ⟨p, wd, n, sg, rfl, _⟩ := h
    rfl
  · obtain ⟨p, wd, n, sg, rfl, hp, hn, hw, hw', hs, hs', q⟩ := h
    refine ⟨_, pss_one (ps_ret (pe_join pe_str (pe_lc (own := [("turn", 3)]) (g := gName 3) (tt := tYes) rfl scWord.nd (pi_range1 (by rfl) B.range (pa_cons (pe_op op_add pe_int (pe_call G hr (by rfl) gD kD bD .nil pass0 (pa_cons (pv 0) (pa_cons (pv 1) pa_nil)))) pa_nil))
      (blkOk_by (N := ["pool", "widest", "signs", "turn"]) (sc := defScope sWord) (by decide +kernel)) (fun _ _ _ _ _ => pg_name (i := 3) scWord.nd rfl (Or.inl rfl)) (fun _ _ _ _ _ => pts_nil)
      (fun _ _ _ _ _ => pe_ix ix_str (pv 2) (pe_call G hr (by rfl) gD kD bD .nil pass0 (pa_cons (pv 0) (pa_cons (pe_callB call_len_str (by rfl) B.len PySem.boot_len (pa_cons (pv 2) pa_nil)) pa_nil))) (fun _ _ => rfl))))), ?_⟩
    refine ⟨⟨_, rfl⟩, _, rfl, _, rfl, p, wd, n, rfl, hp, by omega, hw, by omega, fun d H1 d0 d1 hp1 b1 => ?_⟩
    refine ⟨_, _, rfl, rfl, _, rfl, by omega, by omega, fun D hD => ?_⟩
    have npD : p ≠ D := by
      obtain ⟨_, _, _, e, _⟩ := hp1
      exact ne_of_none e hD
    have hm : (1 + d).toNat ≤ 20 := by omega
    refine lc_it walk_range (fun i H2 => ∃ us : List Str, us.length = i ∧ H2 D = some (.lst (us.map V.str)) ∧ (∀ u ∈ us, ∃ c ∈ sg.cps.toList, u = ⟨#[c]⟩) ∧ PoolAt H2 p (n + 1 + i) ∧ SameBut p H H2)
      ⟨[], rfl, upd_same, fun u hu => by simp at hu, (hp1.same (same_upd hD)).le (by simp), b1.trans (Same.but (same_upd hD))⟩ (fun _ _ _ _ => trivial) ?_ ?_
    · rintro i x H2 H3 hi ⟨us, hl, hD2, hu, hp2, b2⟩ ⟨rfl, rfl⟩
      refine ⟨rfl, yesT ?_⟩
      refine ⟨_, rfl, _, rfl, _, rfl, sg, rfl, Nat.le_trans hs' (by decide), p, _, _, rfl, hp2, by omega, by omega, by omega, fun e H4 e0 e1 hp4 b4 => ?_⟩
      have hel : e.toNat < sg.cps.toList.length := by
        have : sg.length = sg.cps.toList.length := by simp [Str.length]
        omega
      have ee : (e.toNat : Int) = e := by omega
      refine ⟨sg, e, sg.cps.toList[e.toNat], rfl, rfl, Nat.le_trans hs' (by decide), ?_, ?_⟩
      · exact atI_int e0 hel
      · refine ⟨us.map V.str, b4 _ _ (Ne.symm npD) hD2, ?_, us ++ [⟨#[sg.cps.toList[e.toNat]]⟩], by simp [hl], ?_, ?_, ?_, ?_⟩
        · rw [List.length_map]
          exact Nat.lt_of_le_of_lt (show us.length ≤ 20 by omega) (by decide)
        · rw [upd_same]
          simp
        · intro u hm'
          rcases List.mem_append.mp hm' with h | h
          · exact hu u h
          · exact ⟨_, List.getElem_mem hel, by simpa using h⟩
        · obtain ⟨x0, x1, x2, y1, y2, y3, y4, y5, y6⟩ := hp4
          exact ⟨x0, x1, x2, by rw [upd_ne npD]; exact y1, y2, y3, y4, y5, by push_cast at y6 ⊢; omega⟩
        · intro b o nb hb
          have nbD : b ≠ D := by
            intro z
            subst z
            have := b1 _ _ nb hb
            rw [hD] at this
            cases this
          rw [upd_ne nbD]
          exact b4 _ _ nb (b2 _ _ nb hb)
    · rintro H2 ⟨us, hl, hD2, hu, hp2, b2⟩
      have h1 := sum_ones us fun u hm' => let ⟨c, _, e⟩ := hu u hm'; ⟨c, e⟩
      refine ⟨_, D, us, rfl, rfl, .inl (SqL.of hD2), ?_, ?_⟩
      · rw [h1]
        show us.length + us.length * 0 ≤ 16777216
        omega
      · rw [join_cat (by rfl)]
        have hlen : (catS us).length = us.length := by rw [catS_len, h1]
        refine q _ _ (by rw [hlen]; omega) (by rw [hlen]; omega) ?_ (hp2.le (by omega)) b2
        intro c hc
        rw [catS_list] at hc
        obtain ⟨l, hl', hc'⟩ := List.mem_flatten.mp hc
        obtain ⟨u, hu', rfl⟩ := List.mem_map.mp hl'
        obtain ⟨c', hm', rfl⟩ := hu u hu'
        simp at hc'
        subst hc'
        exact hm'
theorem scLot : FnScope ["pool", "many", "widest", "signs", "found", "turn", "fresh", "way", "left", "right", "cut"] ["pool", "many", "widest"] (defScope sLot) := ⟨rfl, rfl, rfl, by decide +kernel, rfl, by decide +kernel, by decide +kernel⟩
def sgs : List Str := ["ab", "ab", "abc", "zq", LET]
theorem sgs_ok : ∀ s ∈ sgs, 0 < s.length ∧ s.length ≤ 100 ∧ isL s = true := by decide +kernel
structure LotOk (ws : List Str) (wd : Int) : Prop where
  nd : ws.Nodup
  l : ∀ x ∈ ws, isL x = true ∧ 1 ≤ x.length ∧ (x.length : Int) ≤ wd
def spLot : Sp := fun vs H Q _ => ∃ (p : Addr) (many wd n : Int), vs = [.ref p, .int many, .int wd] ∧ PoolAt H p n ∧ n < 800000 ∧ 1 ≤ many ∧ many ≤ 8 ∧ 1 ≤ wd ∧ wd ≤ 20 ∧
  ∀ (l : Addr) (ws : List Str) H', H l = none → H' l = some (.lst (ws.map V.str)) → LotOk ws wd → 1 ≤ ws.length → (ws.length : Int) ≤ many → PoolAt H' p (n + 500) → SameBut p H H' → Q (.ref l) H'
theorem ok_lot {f fd' fw' : Addr} {fd fdd fdw : FuncData} {k : Nat} (F : Fun K "_law_lot" "_law_lot" sLot f fd) (B : Bu mg) (G : FnOk P w K mg base CX0 k fd' fdd ["pool", "span"] spDraw) (bD : Binds K fdd ["pool", "span"] []) (kD : PySem.W.keepIn K (.ref fd') = true) (gD : mg "_law_draw" = some (.ref fd'))
    (GW : FnOk P w K mg base CX0 (k + 1) fw' fdw ["pool", "widest", "signs"] spWord) (bW : Binds K fdw ["pool", "widest", "signs"] []) (kW : PySem.W.keepIn K (.ref fw') = true) (gW : mg "_law_word" = some (.ref fw')) :
    FnOk P w K mg base CX0 (k + 2) f fd ["pool", "many", "widest"] spLot := by
  refine F.ok scLot (fun vs H Q E h => ?_) (fun cdv A outer s H vs Q E hr h => ?_)
  · obtain ⟨p, many, wd, n, rfl, _⟩ := h
    rfl
  · obtain ⟨p, many, wd, n, rfl, hp, hn, hm, hm', hw, hw', q⟩ := h
    have hr1 : Room k _ := hr.mono (Nat.le_succ k)
    refine ⟨_, pss_cons (ps_set (i := 3) scLot.nd rfl (Or.inl rfl) (pe_ix ix_list (pe_lst (pa_cons pe_str (pa_cons pe_str (pa_cons pe_str (pa_cons pe_str (pa_cons pe_str pa_nil)))))) (pe_call G hr1 (by rfl) gD kD bD .nil pass0 (pa_cons (pv 0) (pa_cons pe_int pa_nil))) (fun _ _ => rfl)))
      (pss_cons (ps_set (i := 4) scLot.nd rfl (Or.inl rfl) (pe_lst pa_nil))
      (pss_cons (ps_for PassesOwn.never rfl (pi_range1 (by rfl) B.range (pa_cons (pe_op op_add pe_int (pe_call G hr1 (by rfl) gD kD bD .nil pass0 (pa_cons (pv 0) (pa_cons (pv 1) pa_nil)))) pa_nil)) (pg_name (i := 5) scLot.nd rfl (Or.inl rfl))
        (pss_cons (ps_par (i := 6) (j := 7) (by rfl) scLot.nd rfl rfl (by decide) rfl rfl (pa_cons (pe_call GW hr (by rfl) gW kW bW .nil pass0 (pa_cons (pv 0) (pa_cons (pv 2) (pa_cons (pv 3) pa_nil)))) (pa_cons (pe_call G hr1 (by rfl) gD kD bD .nil pass0 (pa_cons (pv 0) (pa_cons pe_int pa_nil))) pa_nil)) (by rfl))
        (pss_cons (ps_if (PW.pt (pw_and (pt_cmpR (op_neD hr.units) (pv 4) (pe_lst pa_nil) (nomark _)) (pw_and1 (pt_cmpR op_lt (pv 7) pe_int (nomark _)))))
          (pss_cons (ps_par (i := 8) (j := 9) (by rfl) scLot.nd rfl rfl (by decide) rfl rfl (pa_cons (pe_ix ix_list (pv 4) (pe_call G hr1 (by rfl) gD kD bD .nil pass0 (pa_cons (pv 0) (pa_cons (pe_callB call_len_seq (by rfl) B.len PySem.boot_len (pa_cons (pv 4) pa_nil)) pa_nil))) (fun _ _ => rfl))
              (pa_cons (pe_ix ix_list (pv 4) (pe_call G hr1 (by rfl) gD kD bD .nil pass0 (pa_cons (pv 0) (pa_cons (pe_callB call_len_seq (by rfl) B.len PySem.boot_len (pa_cons (pv 4) pa_nil)) pa_nil))) (fun _ _ => rfl)) pa_nil)) (by rfl))
          (pss_cons (ps_set (i := 10) scLot.nd rfl (Or.inl rfl) (pe_op op_add pe_int (pe_call G hr1 (by rfl) gD kD bD .nil pass0 (pa_cons (pv 0) (pa_cons (pe_callB call_len_str (by rfl) B.len PySem.boot_len (pa_cons (pv 8) pa_nil)) pa_nil)))))
          (pss_one (ps_set (i := 6) scLot.nd rfl (Or.inl rfl) (pe_ix ix_list (pe_lst (pa_cons (pe_op op_add_str (pv 8) (pv 9)) (pa_cons (pe_slice sl_str (pv 8) po_none (po_some (pv 10))) (pa_cons (pe_op op_add_str (pe_slice sl_str (pv 8) (po_some (pe_op op_sub (pv 10) pe_int)) po_none) (pe_slice sl_str (pv 9) po_none (po_some pe_int))) pa_nil)))) (pv 7) (fun _ _ => rfl)))))) pss_nil)
        (pss_one (ps_if (PW.pt (pw_and (pt_cmpR op_le (pe_callB call_len_str (by rfl) B.len PySem.boot_len (pa_cons (pv 6) pa_nil)) (pv 2) (nomark _)) (pw_and1 (pt_cmpR op_notIn_seq (pv 6) (pv 4) rfl))))
          (pss_one (ps_expr (pe_bm PySem.F.plainAttrs_list PySem.F.slot_list_append PySem.F.type_list_append mt_append (pv 4) (pa_cons (pv 6) pa_nil)))) pss_nil)))))
      (pss_one (ps_ret (pv 4))))), ?_⟩
    -- signs
    refine ⟨(by show 5 ≤ sizeLine; decide), fun l0 nl0 => ?_⟩
    have s0 := same_upd (o := .lst [V.str "ab", .str "ab", .str "abc", .str "zq", .str LET]) nl0
    refine ⟨_, rfl, p, _, n, rfl, hp.same s0, by omega, by decide, by decide, fun d H1 d0 d1 hp1 b1 => ?_⟩
    have np0 : p ≠ l0 := by
      obtain ⟨_, _, _, e, _⟩ := hp
      exact ne_of_none e nl0
    obtain ⟨sg, hsg, hsm, _⟩ := at_strs (ss := sgs) d0 d1
    obtain ⟨sg1, sg2, sg3⟩ := sgs_ok sg hsm
    refine ⟨l0, _, _, _, rfl, rfl, SqL.of (b1 _ _ (Ne.symm np0) upd_same), hsg, ?_⟩
    -- found = []
    refine ⟨Nat.zero_le _, fun l nl => ?_⟩
    have npl : p ≠ l := by
      obtain ⟨_, _, _, e, _⟩ := hp1
      exact ne_of_none e nl
    have b2 : SameBut p H (upd H1 l (.lst [])) := ((Same.but s0).trans b1).trans (Same.but (same_upd nl))
    refine ⟨_, rfl, _, rfl, p, many, n + 1, rfl, hp1.same (same_upd nl), by omega, by omega, by omega, fun d' H2 d0' d1' hp2 b3 => ?_⟩
    refine ⟨_, _, rfl, rfl, _, rfl, by omega, by omega, ?_⟩
    have hl0 : H l = none := (((Same.but s0).trans b1).free (Ne.symm npl) nl)
    have hl2 : H2 l = some (.lst []) := b3 _ _ (Ne.symm npl) upd_same
    refine for_range (lo := 0) (n := (1 + d').toNat) (fun i σ H3 => ∃ (ws : List Str) (v5 v6 v7 v8 v9 v10 : Option V), σ = [some (.ref p), some (.int many), some (.int wd), some (.str sg), some (.ref l), v5, v6, v7, v8, v9, v10] ∧
        H3 l = some (.lst (ws.map V.str)) ∧ LotOk ws wd ∧ ws.length ≤ i ∧ (1 ≤ i → 1 ≤ ws.length) ∧ PoolAt H3 p (n + 2 + 30 * i) ∧ SameBut p H H3)
      ⟨[], none, none, none, none, none, none, rfl, hl2, ⟨List.nodup_nil, fun x h => by simp at h⟩, Nat.le_refl _, fun h => by omega, hp2.le (by simp; omega), b2.trans b3⟩ ?_ ?_
    · rintro i σ H3 hi ⟨ws, v5, v6, v7, v8, v9, v10, rfl, hl3, lo, wl, wi, hp3, b4⟩
      have hi8 : i ≤ 8 := by omega
      refine ⟨_, rfl, _, rfl, _, rfl, p, wd, _, sg, rfl, hp3, by omega, hw, hw', sg1, sg2, fun z H4 z1 z2 z3 hp4 b5 => ?_⟩
      refine ⟨_, rfl, p, _, _, rfl, hp4, by omega, by decide, by decide, fun way H5 w0 w1 hp5 b6 => ⟨_, _, rfl, ?_⟩⟩
      have zL : isL z = true := isL_iff.mpr fun c hc => isL_iff.mp sg3 c (z3 c hc)
      have b7 : SameBut p H H5 := (b4.trans b5).trans b6
      have hl5 : H5 l = some (.lst (ws.map V.str)) := b6 _ _ (Ne.symm npl) (b5 _ _ (Ne.symm npl) hl3)
      with_reducible show tSeq _ _ _ _ _
      refine seq_mid (fun σ H6 => ∃ (y : Str) (v8 v9 v10 : Option V), σ = [some (.ref p), some (.int many), some (.int wd), some (.str sg), some (.ref l), some (.int (0 + i)), some (.str y), some (.int way), v8, v9, v10] ∧
        H6 l = some (.lst (ws.map V.str)) ∧ isL y = true ∧ 1 ≤ y.length ∧ y.length ≤ 1000 ∧ (ws = [] → (y.length : Int) ≤ wd) ∧ PoolAt H6 p (n + 2 + 30 * i + 29) ∧ SameBut p H H6) ?_ ?_
      · intro N hN
        have sok : SOk ws := fun x hx => sok_isL (lo.l x hx).1
        refine ⟨_, rfl, Nat.zero_le _, fun e ne => ?_⟩
        have s9 := same_upd (o := .lst []) ne
        refine ⟨_, _, dp_lst (SqL.of (s9 _ _ hl5)), dp_lst (ws := []) (SqL.of upd_same), sh_lst sok, sh_lst (fun x h => by simp at h), _, rfl, ?_⟩
        rw [eqv_lst]
        by_cases c0 : ws = []
        · rw [decide_eq_true c0]
          refine iteF (iteF ?_)
          exact hN _ _ ⟨z, v8, v9, v10, rfl, s9 _ _ hl5, zL, z1, by omega, fun _ => z2, (hp5.same s9).le (by omega), b7.trans (Same.but s9)⟩
        · rw [decide_eq_false c0]
          refine iteT ?_
          refine ⟨_, rfl, _, _, rfl, rfl, _, rfl, ?_⟩
          by_cases c1 : way < 3
          · rw [decide_eq_true c1]
            refine iteT ?_
            have hl7 := s9 _ _ hl5
            have wl1 : 1 ≤ ws.length := by
              cases ws with
              | nil => exact absurd rfl c0
              | cons a b => simp
            have hlen : (((ws.map V.str).length : Nat) : Int) = (ws.length : Int) := by rw [List.length_map]
            -- left, right
            refine ⟨_, rfl, _, rfl, _, rfl, l, _, rfl, .inl (SqL.of hl7), p, _, _, rfl, hp5.same s9, by omega, by omega, by omega, fun da H7 a0 a1 hp7 b9 => ?_⟩
            have hl8 := b9 _ _ (Ne.symm npl) hl7
            obtain ⟨lf, hlf, lfm, _⟩ := at_strs (ss := ws) a0 (by omega)
            refine ⟨l, _, _, _, rfl, rfl, SqL.of hl8, hlf, ?_⟩
            refine ⟨_, rfl, _, rfl, _, rfl, l, _, rfl, .inl (SqL.of hl8), p, _, _, rfl, hp7, by omega, by omega, by omega, fun db H8 e0 e1 hp8 b10 => ?_⟩
            have hl9 := b10 _ _ (Ne.symm npl) hl8
            obtain ⟨rt, hrt, rtm, _⟩ := at_strs (ss := ws) e0 (by omega)
            refine ⟨l, _, _, _, rfl, rfl, SqL.of hl9, hrt, ?_⟩
            obtain ⟨lf1, lf2, lf3⟩ := lo.l lf lfm
            obtain ⟨rt1, rt2, rt3⟩ := lo.l rt rtm
            have lfs : lf.length ≤ sizeLine := Nat.le_trans (show lf.length ≤ 20 by omega) (by decide)
            have rts : rt.length ≤ sizeLine := Nat.le_trans (show rt.length ≤ 20 by omega) (by decide)
            -- cut
            refine ⟨_, _, rfl, ?_⟩
            refine ⟨_, rfl, _, rfl, lf, rfl, lfs, p, _, _, rfl, hp8, by omega, by omega, by omega, fun dc H9 g0 g1 hp9 b11 => ?_⟩
            refine ⟨_, _, rfl, rfl, ?_⟩
            -- fresh
            refine ⟨_, rfl, _, rfl, lf, rt, rfl, rfl, Nat.le_trans (show lf.length + rt.length ≤ 40 by omega) (by decide), ?_⟩
            refine ⟨_, rfl, _, rfl, _, rfl, lf, rfl, lfs, ?_⟩
            refine ⟨_, rfl, _, rfl, _, _, rfl, rfl, _, rfl, lf, rfl, lfs, ?_⟩
            refine ⟨_, rfl, _, rfl, rt, rfl, rts, ?_⟩
            have cL : (cutS lf (some (1 + dc - 1)) none).length = lf.length - (1 + dc - 1).toNat := len_lo (by omega)
            have cR : (cutS rt none (some 1)).length = min (1 : Int).toNat rt.length := len_hi (by omega)
            have cC : (cutS lf none (some (1 + dc))).length = min (1 + dc).toNat lf.length := len_hi (by omega)
            have cR' : (1 : Int).toNat = 1 := rfl
            refine ⟨_, _, rfl, rfl, Nat.le_trans (show (cutS lf (some (1 + dc - 1)) none).length + (cutS rt none (some 1)).length ≤ 40 by omega) (by decide), ?_⟩
            refine ⟨(by show 3 ≤ sizeLine; decide), fun l3 nl3 => ?_⟩
            have s10 := same_upd (o := .lst [V.str (lf ++ rt), .str (cutS lf none (some (1 + dc))), .str (cutS lf (some (1 + dc - 1)) none ++ cutS rt none (some 1))]) nl3
            obtain ⟨y, hy, ym, _⟩ := at_strs (ss := [lf ++ rt, cutS lf none (some (1 + dc)), cutS lf (some (1 + dc - 1)) none ++ cutS rt none (some 1)]) w0 (by simpa using c1)
            refine ⟨_, rfl, l3, _, _, _, rfl, rfl, SqL.of upd_same, hy, ?_⟩
            have yy : isL y = true ∧ 1 ≤ y.length ∧ y.length ≤ 1000 := by
              simp only [List.mem_cons, List.not_mem_nil, or_false] at ym
              rcases ym with e | e | e
              · rw [e, len_app]
                exact ⟨isL_app lf1 rt1, by omega, by omega⟩
              · rw [e]
                exact ⟨isL_hi (by omega) lf1, by omega, by omega⟩
              · rw [e, len_app]
                exact ⟨isL_app (isL_lo (by omega) lf1) (isL_hi (by omega) rt1), by omega, by omega⟩
            refine hN _ _ ⟨y, some (.str lf), some (.str rt), some (.int (1 + dc)), rfl, s10 _ _ (b11 _ _ (Ne.symm npl) hl9), yy.1, yy.2.1, yy.2.2, fun z => absurd z c0, (hp9.same s10).le (by omega), ?_⟩
            exact (((((b7.trans (Same.but s9)).trans b9).trans b10).trans b11).trans (Same.but s10))
          · rw [decide_eq_false c1]
            refine iteF ?_
            exact hN _ _ ⟨z, v8, v9, v10, rfl, s9 _ _ hl5, zL, z1, by omega, fun e => absurd e c0, (hp5.same s9).le (by omega), b7.trans (Same.but s9)⟩
      · rintro σ H6 ⟨y, v8, v9, v10, rfl, hl6, yL, y1, y2, y3, hp6, b8⟩
        refine ⟨_, rfl, y, rfl, Nat.le_trans y2 (by decide), _, rfl, _, _, rfl, rfl, _, rfl, ?_⟩
        have go : ∀ H7, H7 l = some (.lst ((ws).map V.str)) → H7 = H6 → (ws ≠ []) → ∃ (ws' : List Str) (v5 v6 v7 v8' v9' v10' : Option V), ([some (.ref p), some (.int many), some (.int wd), some (.str sg), some (.ref l), some (.int (0 + i)), some (.str y), some (.int way), v8, v9, v10] : Sl) = [some (.ref p), some (.int many), some (.int wd), some (.str sg), some (.ref l), v5, v6, v7, v8', v9', v10'] ∧
            H7 l = some (.lst (ws'.map V.str)) ∧ LotOk ws' wd ∧ ws'.length ≤ i + 1 ∧ (1 ≤ i + 1 → 1 ≤ ws'.length) ∧ PoolAt H7 p (n + 2 + 30 * ((i + 1 : Nat) : Int)) ∧ SameBut p H H7 := by
          rintro H7 h7 rfl hne
          refine ⟨ws, _, _, _, _, _, _, rfl, h7, lo, by omega, fun _ => ?_, hp6.le (by push_cast; omega), b8⟩
          cases ws with
          | nil => exact absurd rfl hne
          | cons a b => simp
        by_cases c1 : (y.length : Int) ≤ wd
        · rw [decide_eq_true c1]
          refine iteT ?_
          refine ⟨_, rfl, _, rfl, l, _, rfl, .inl (SqL.of hl6), rfl, flat_strs ws, _, rfl, ?_⟩
          rw [inV_strs]
          by_cases c2 : y ∈ ws
          · rw [decide_eq_true c2]
            refine iteF ?_
            exact go H6 hl6 rfl (fun z => by rw [z] at c2; simp at c2)
          · rw [decide_eq_false c2]
            refine iteT ?_
            refine ⟨_, rfl, .inl ⟨rfl, _, SqL.of hl6⟩, _, rfl, l, _, _, rfl, rfl, hl6, ?_, ?_⟩
            · rw [List.length_map]
              exact Nat.lt_of_le_of_lt (show ws.length ≤ 100 by omega) (by decide)
            refine ⟨ws ++ [y], _, _, _, _, _, _, rfl, ?_, ⟨?_, ?_⟩, ?_, ?_, ?_, ?_⟩
            · rw [upd_same]
              simp
            · rw [List.nodup_append]
              exact ⟨lo.nd, by simp, fun a ha b hb => by
                simp at hb
                subst hb
                intro e
                subst e
                exact c2 ha⟩
            · intro x hx
              rcases List.mem_append.mp hx with h | h
              · exact lo.l x h
              · have e : x = y := by simpa using h
                subst e
                exact ⟨yL, y1, c1⟩
            · rw [List.length_append]
              simp
              omega
            · intro _
              rw [List.length_append]
              simp
            · obtain ⟨x0, x1, x2, e1, e2, e3, e4, e5, e6⟩ := hp6
              exact ⟨x0, x1, x2, by rw [upd_ne npl]; exact e1, e2, e3, e4, e5, by push_cast at e6 ⊢; omega⟩
            · intro b o nb hb
              have nbl : b ≠ l := by
                intro z
                subst z
                rw [hl0] at hb
                cases hb
              rw [upd_ne nbl]
              exact b8 _ _ nb hb
        · rw [decide_eq_false c1]
          refine iteF (iteF ?_)
          exact go H6 hl6 rfl (fun z => c1 (y3 z))
    · rintro σ H3 ⟨ws, v5, v6, v7, v8, v9, v10, rfl, hl3, lo, wl, wi, hp3, b4⟩
      exact ⟨_, rfl, q l ws H3 hl0 hl3 lo (wi (by omega)) (by omega) (hp3.le (by omega)) b4⟩
end

end WH
namespace WH
open PySem PySem.Spec PyProof.Rows L2
section
variable {P : Program} {w : World} {K : PySem.W.Frag} {mg : Str → Option Value} {base : Heap}
/-- == with anything -/
def spSEqG (K : PySem.W.Frag) (C : Addr) : Sp := fun vs H Q _ => ∃ (p : Addr) (ws : List Str) (y : V) (t : Value), vs = [.ref p, y] ∧ StkAt C H p ws ∧ Good ws ∧ TyX K H y t ∧
  ((∃ (r : Addr) (zs : List Str), y = .ref r ∧ StkAt C H r zs ∧ Good zs ∧ t = .ref C ∧ ∀ H', Same H H' → Q (.bl (decide (ws = zs))) H') ∨ (PySem.W.kitOne K t (.ref C) = some false ∧ Q (.bl false) H))
theorem ok_seqG {f C fi fe fw : Addr} {fd : FuncData} {k : Nat} (F : Fun K "__eq__" "Stock.__eq__" sSEq f fd) (T : StkC K mg C fi fe fw) (mi : mg "isinstance" = none) : FnOk P w K mg base CX0 (k + 1) f fd ["self", "other"] (spSEqG K C) := by
  refine F.ok scSEq (fun vs H Q E h => ?_) (fun cdv A outer s H vs Q E hr h => ?_)
  · obtain ⟨p, ws, y, t, rfl, _⟩ := h
    rfl
  · obtain ⟨p, ws, y, ty, rfl, hp, g1, htx, cases'⟩ := h
    refine ⟨_, pss_one (ps_ret (pe_and (pe_callB call_isi (by rfl) mi (by decide +kernel) (pa_cons (pv 1) (pa_cons (pe_glob (v := .ref C) rfl T.mgC rfl) pa_nil)))
      (pe_one (pe_cmpR (op_eqD hr.units) (pe_fld (pv 0) rfl) (pe_fld (pv 1) rfl) (nomark _))))), ?_⟩
    rcases cases' with ⟨r, zs, rfl, hz, g2, rfl, q⟩ | ⟨kf, q⟩
    · obtain ⟨dx, t, h1, h2⟩ := hp
      obtain ⟨dz, u, h3, h4⟩ := hz
      refine ⟨_, rfl, _, _, _, _, _, rfl, .own C, htx, T.ki, _, rfl, ?_⟩
      refine iteT ?_
      refine ⟨_, rfl, p, C, dx, _, _, rfl, h1, T.cl, T.nW, fW_get _, _, rfl, r, C, dz, _, _, rfl, h3, T.cl, T.nW, fW_get _, _, _, dp_tup (SqT.of h2), dp_tup (SqT.of h4), sh_tup g1.sok, sh_tup g2.sok, ?_⟩
      rw [eqv_tup]
      exact q _ (Same.refl _)
    · refine ⟨_, rfl, _, _, _, _, _, rfl, .own C, htx, kf, _, rfl, ?_⟩
      exact iteF q
end

def knowns : List Str := ["a ab ba", "aab ab aba", "a ab bb", "aa aaa", "ab abab", "a ba", "abab", "a b", "ab abb baab", "aa ab ba bb", "a ab", "abc bcd cda dab", "aba bab", "ab ba", "a abb bbab", "aaaaaaaa aaaaaaa", "b ab aab aaab"]
def lotB (ws : List Str) : Bool := decide ws.Nodup && ws.all (fun x => isL x && decide (1 ≤ x.length) && decide (x.length ≤ 8)) && decide (1 ≤ ws.length) && decide (ws.length ≤ 8)
theorem knowns_ok : ∀ s ∈ knowns, lotB (Txt.split s " ") = true ∧ s.length ≤ 100 := by decide +kernel
theorem lotB_ok {ws : List Str} (h : lotB ws = true) : LotOk ws 8 ∧ 1 ≤ ws.length ∧ ws.length ≤ 8 := by
  unfold lotB at h
  simp only [Bool.and_eq_true, decide_eq_true_eq, List.all_eq_true] at h
  obtain ⟨⟨⟨h1, h2⟩, h3⟩, h4⟩ := h
  exact ⟨⟨h1, fun x hx => ⟨(h2 x hx).1.1, (h2 x hx).1.2, by have := (h2 x hx).2; omega⟩⟩, h3, h4⟩
section
variable {P : Program} {w : World} {K : PySem.W.Frag} {mg : Str → Option Value} {base : Heap}
theorem scKnown : FnScope ["pool", "some"] ["pool"] (defScope sKnown) := ⟨rfl, rfl, rfl, by decide +kernel, rfl, by decide +kernel, by decide +kernel⟩
def spKnown : Sp := fun vs H Q _ => ∃ (p : Addr) (n : Int), vs = [.ref p] ∧ PoolAt H p n ∧ n < 800000 ∧
  ∀ (l : Addr) (ws : List Str) H', H l = none → H' l = some (.lst (ws.map V.str)) → LotOk ws 8 → 1 ≤ ws.length → ws.length ≤ 8 → PoolAt H' p (n + 1) → SameBut p H H' → Q (.ref l) H'
theorem ok_known {f fd' : Addr} {fd fdd : FuncData} {k : Nat} (F : Fun K "_law_known" "_law_known" sKnown f fd) (G : FnOk P w K mg base CX0 k fd' fdd ["pool", "span"] spDraw) (bD : Binds K fdd ["pool", "span"] []) (kD : PySem.W.keepIn K (.ref fd') = true) (gD : mg "_law_draw" = some (.ref fd')) :
    FnOk P w K mg base CX0 (k + 1) f fd ["pool"] spKnown := by
  refine F.ok scKnown (fun vs H Q E h => ?_) (fun cdv A outer s H vs Q E hr h => ?_)
  · obtain ⟨p, n, rfl, _⟩ := h
    rfl
  · obtain ⟨p, n, rfl, hp, hn, q⟩ := h
    refine ⟨_, (pss_cons (ps_set (i := 1) scKnown.nd rfl (Or.inl rfl) (pe_lst (pa_cons pe_str (pa_cons pe_str (pa_cons pe_str (pa_cons pe_str (pa_cons pe_str (pa_cons pe_str (pa_cons pe_str (pa_cons pe_str (pa_cons pe_str pa_nil)))))))))))
      (pss_cons (ps_set (i := 1) scKnown.nd rfl (Or.inl rfl) (pe_op op_cat (pv 1) (pe_lst (pa_cons pe_str (pa_cons pe_str (pa_cons pe_str (pa_cons pe_str (pa_cons pe_str (pa_cons pe_str pa_nil)))))))))
      (pss_cons (ps_set (i := 1) scKnown.nd rfl (Or.inl rfl) (pe_op op_cat (pv 1) (pe_lst (pa_cons pe_str (pa_cons pe_str pa_nil)))))
      (pss_one (ps_ret (pe_split (pe_ix ix_list (pv 1) (pe_call G hr (by rfl) gD kD bD .nil pass0 (pa_cons (pv 0) (pa_cons pe_int pa_nil))) (fun _ _ => rfl)) pe_str)))))), ?_⟩
    refine ⟨(by show 9 ≤ sizeLine; decide), fun a na => ?_⟩
    have sa := same_upd (o := .lst ((knowns.take 9).map V.str)) na
    refine ⟨_, rfl, (by show 6 ≤ sizeLine; decide), fun b nb => ?_⟩
    have sb := same_upd (o := .lst (((knowns.drop 9).take 6).map V.str)) nb
    refine ⟨a, b, _, _, rfl, rfl, sb _ _ upd_same, upd_same, (by show 9 + 6 ≤ sizeLine; decide), fun c nc => ?_⟩
    have sc := same_upd (o := .lst ((knowns.take 15).map V.str)) nc
    refine ⟨_, rfl, (by show 2 ≤ sizeLine; decide), fun d nd => ?_⟩
    have sd := same_upd (o := .lst ((knowns.drop 15).map V.str)) nd
    refine ⟨c, d, _, _, rfl, rfl, sd _ _ upd_same, upd_same, (by show 15 + 2 ≤ sizeLine; decide), fun e ne => ?_⟩
    have se := same_upd (o := .lst (knowns.map V.str)) ne
    have sAll := (((sa.trans sb).trans sc).trans sd).trans se
    have hpe := hp.same sAll
    have npe : e ≠ p := by
      obtain ⟨_, _, _, x, _⟩ := ((((hp.same sa).same sb).same sc).same sd)
      exact (ne_of_none x ne).symm
    refine ⟨_, rfl, _, rfl, p, _, n, rfl, hpe, by omega, by decide, by decide, fun x H1 d0 d1 hp1 b1 => ?_⟩
    obtain ⟨z, hz, hzm, _⟩ := at_strs (ss := knowns) d0 d1
    obtain ⟨kb, k1⟩ := knowns_ok z hzm
    obtain ⟨g1, g2, g3⟩ := lotB_ok kb
    refine ⟨e, _, _, _, rfl, rfl, SqL.of (b1 _ _ npe upd_same), hz, ?_⟩
    refine ⟨⟨_, rfl⟩, z, " ", rfl, rfl, by decide, Nat.le_trans (show z.length + 2 ≤ 102 by omega) (by decide), fun l nl => ?_⟩
    have npl : l ≠ p := by
      obtain ⟨_, _, _, y, _⟩ := hp1
      exact (ne_of_none y nl).symm
    have bAll : SameBut p H H1 := (Same.but sAll).trans b1
    exact q l _ _ (bAll.free npl nl) upd_same g1 g2 g3 (hp1.same (same_upd nl)) (bAll.trans (Same.but (same_upd nl)))
end

end WH
namespace WH
open PySem PySem.Spec PyProof.Rows L2
theorem StkAt.butL {C p m : Addr} {H H' : Hp} {ws : List Str} {xs : List V} (h : StkAt C H m ws) (hp : H p = some (.lst xs)) (s : SameBut p H H') : StkAt C H' m ws := by
  obtain ⟨dx, t, h1, h2⟩ := h
  exact ⟨dx, t, s _ _ (ne_of h1 hp (by intro z; cases z)) h1, s _ _ (ne_of h2 hp (by intro z; cases z)) h2⟩
theorem StkAt.but {C p m : Addr} {H H' : Hp} {ws : List Str} {n : Int} (h : StkAt C H m ws) (hp : PoolAt H p n) (s : SameBut p H H') : StkAt C H' m ws := by
  obtain ⟨_, _, _, e, _⟩ := hp
  exact h.butL e s
theorem mk_s0 {C x dx : Addr} {H : Hp} (nx : H x = none) (ndx : H dx = none) : Same H (upd (upd H dx (.own x)) x (.ins C dx [])) := same_set (same_upd ndx) nx
theorem mk_same {C x dx : Addr} {H H' : Hp} (nx : H x = none) (ndx : H dx = none) (kp : ∀ b o, (upd (upd H dx (.own x)) x (.ins C dx [])) b = some o → b ≠ x → H' b = some o) : Same H H' := fun b o e => kp b o (mk_s0 nx ndx b o e) (ne_of_none e nx)
theorem nf_self (K : PySem.W.Frag) (C : Addr) : PySem.W.notFirst K C (.ref C) = true := by simp [PySem.W.notFirst]
theorem good_lot {ws : List Str} (h : LotOk ws 8) (h1 : 1 ≤ ws.length) (h8 : ws.length ≤ 8) : Good ws :=
  ⟨fun x hx => by
    obtain ⟨a, b, c⟩ := h.l x hx
    unfold isW
    rw [a, decide_eq_true b, decide_eq_true (show x.length ≤ 8 by omega)]
    rfl, h.nd, h1, h8⟩
theorem good_rev {ws : List Str} (g : Good ws) : Good ws.reverse := ⟨fun x hx => g.w x (List.mem_reverse.mp hx), (List.pairwise_reverse.mpr (g.nd.imp fun h => h.symm)), by rw [List.length_reverse]; exact g.lo, by rw [List.length_reverse]; exact g.hi⟩
theorem good_take {ws : List Str} (g : Good ws) : Good (ws.take 1) := ⟨fun x hx => g.w x (List.mem_of_mem_take hx), g.nd.sublist (List.take_sublist _ _), by rw [List.length_take]; have := g.lo; omega, by rw [List.length_take]; omega⟩
theorem cutV_take (ws : List Str) {d : Int} (h : 0 ≤ d) : cutV (ws.map V.str) none (some d) = (ws.take d.toNat).map V.str := by
  have e : d = (d.toNat : Int) := by omega
  unfold cutV
  rw [e, HT.sIx_nat, HT.sIx_none, List.drop_zero, Nat.sub_zero, List.map_take]
  rw [← List.take_eq_take_min]
  rfl
theorem cutV_drop (ws : List Str) {d : Int} (h : 0 ≤ d) : cutV (ws.map V.str) (some d) none = (ws.drop d.toNat).map V.str := by
  have e : d = (d.toNat : Int) := by omega
  unfold cutV
  rw [e, HT.sIx_nat, HT.sIx_none, List.map_drop]
  show ((ws.map V.str).drop (min d.toNat (ws.map V.str).length)).take ((ws.map V.str).length - min d.toNat (ws.map V.str).length) = (ws.map V.str).drop d.toNat
  by_cases hc : d.toNat ≤ (ws.map V.str).length
  · rw [Nat.min_eq_left hc, List.take_of_length_le (by rw [List.length_drop]; omega)]
  · rw [Nat.min_eq_right (by omega), List.drop_of_length_le (Nat.le_refl _), List.drop_of_length_le (by omega)]
    simp
/-- between an assignment and what follows -/
theorem set_mid {te : TE} {i : Nat} {t2 : TS} {D : Ends} {σ : Sl} {H : Hp} (R : V → Hp → Prop) (h1 : ∀ N : VK, (∀ v H', R v H' → N v H') → te σ H N) (h2 : ∀ v H', R v H' → t2 D (σ.set i (some v)) H') : tSeq (tAsg te (gName i)) t2 D σ H := h1 _ h2
structure Cal (P : Program) (w : World) (K : PySem.W.Frag) (mg : Str → Option Value) (base : Heap) (k : Nat) (x : Str) (ps : List Str) (sp : Sp) (f : Addr) (fd : FuncData) : Prop where
  G : FnOk P w K mg base CX0 k f fd ps sp
  b : Binds K fd ps []
  k : PySem.W.keepIn K (.ref f) = true
  g : mg x = some (.ref f)
structure BuX (mg : Str → Option Value) : Prop extends Bu mg where
  repr : mg "repr" = none
  list : mg "list" = none
  tuple : mg "tuple" = none
  isinstance : mg "isinstance" = none
/-- a value of another kind than a stock -/
def Oth (K : PySem.W.Frag) (C : Addr) (H : Hp) (v : V) : Prop := ∃ t, TyX K H v t ∧ PySem.W.notFirst K C t = true ∧ PySem.W.kitOne K t (.ref C) = some false
structure OthF (K : PySem.W.Frag) (C : Addr) : Prop where
  l : PySem.W.notFirst K C (.type "list") = true ∧ PySem.W.kitOne K (.type "list") (.ref C) = some false
  t : PySem.W.notFirst K C (.type "tuple") = true ∧ PySem.W.kitOne K (.type "tuple") (.ref C) = some false
  s : PySem.W.notFirst K C (.type "str") = true ∧ PySem.W.kitOne K (.type "str") (.ref C) = some false
  n : PySem.W.notFirst K C (.type "NoneType") = true ∧ PySem.W.kitOne K (.type "NoneType") (.ref C) = some false
  i : PySem.W.notFirst K C (.type "int") = true ∧ PySem.W.kitOne K (.type "int") (.ref C) = some false
section
variable {P : Program} {w : World} {K : PySem.W.Frag} {mg : Str → Option Value} {base : Heap}
theorem scFits : FnScope ["pool", "lot", "passed", "kept", "made", "again", "told", "turned", "fewer", "thing"] ["pool"] (defScope sFits) := ⟨rfl, rfl, rfl, by decide +kernel, rfl, by decide +kernel, by decide +kernel⟩
def spFits : Sp := fun vs H Q _ => ∃ (p : Addr) (n : Int), vs = [.ref p] ∧ PoolAt H p n ∧ n < 700000 ∧ ∀ H', PoolAt H' p (n + 600) → SameBut p H H' → Q (.bl true) H'
theorem ok_fits {f C fi fe fw fD fK fL : Addr} {fd fdi fde fdw fdD fdK fdL : FuncData} (F : Fun K "_law_fits" "_law_fits" sFits f fd) (B : BuX mg) (T : StkC K mg C fi fe fw) (O : OthF K C)
    (Gi : FnOk P w K mg base CX0 4 fi fdi ["self", "words"] (spSInit K C)) (bi : Binds K fdi ["self", "words"] []) (kbi : KBn K fdi ["self", "words"] 1 ["words"] (fun us ws => us ++ ws) (fun us ws => us ++ ws)) (Ge : FnOk P w K mg base CX0 4 fe fde ["self", "other"] (spSEqG K C)) (be : Binds K fde ["self", "other"] [])
    (Gw : FnOk P w K mg base CX0 4 fw fdw ["self"] (spSWords C)) (bw : Binds K fdw ["self"] [])
    (D : Cal P w K mg base 1 "_law_draw" ["pool", "span"] spDraw fD fdD) (KN : Cal P w K mg base 2 "_law_known" ["pool"] spKnown fK fdK) (L : Cal P w K mg base 3 "_law_lot" ["pool", "many", "widest"] spLot fL fdL) : FnG P w K mg base CX0 8 f fd ["pool"] spFits := by
  refine WH.Fun.okG F scFits (fun vs H Q E h => ?_) (fun cdv A outer s H vs Q E hr hG h => ?_)
  · obtain ⟨p, n, rfl, _⟩ := h
    rfl
  · obtain ⟨p, n, rfl, hp, hn, q⟩ := h
    obtain ⟨pp, hpp⟩ := T.prop
    have hr1 : Room 1 _ := hr.mono (by decide)
    have hr2 : Room 2 _ := hr.mono (by decide)
    have hr3 : Room 3 _ := hr.mono (by decide)
    have hr4 : Room 4 _ := hr.mono (by decide)
    have hr5 : Room 5 _ := hr.mono (by decide)
    refine ⟨_, (pss_cons (ps_set (i := 1) scFits.nd rfl (Or.inl rfl) (pe_ifExp (pt_cmpR op_eq (pe_call D.G hr1 (by rfl) D.g D.k D.b .nil pass0 (pa_cons (pv 0) (pa_cons pe_int pa_nil))) pe_int (nomark _)) (pe_call KN.G hr2 (by rfl) KN.g KN.k KN.b .nil pass0 (pa_cons (pv 0) pa_nil)) (pe_call L.G hr3 (by rfl) L.g L.k L.b .nil pass0 (pa_cons (pv 0) (pa_cons pe_int (pa_cons pe_int pa_nil))))))
      (pss_cons (ps_par (i := 2) (j := 3) (by rfl) scFits.nd rfl rfl (by decide) rfl rfl (pa_cons (pe_callTy call_list_of (by rfl) B.list (by decide +kernel) (pa_cons (pv 1) pa_nil)) (pa_cons (pe_callB (call_repr hG hr.units) (by rfl) B.repr (by decide +kernel) (pa_cons (pv 1) pa_nil)) pa_nil)) (by rfl))
      (pss_cons (ps_par (i := 4) (j := 5) (by rfl) scFits.nd rfl rfl (by decide) rfl rfl (pa_cons (pe_make T.made Gi hr5 (by rfl) T.mgC bi .nil pass0 (pa_cons (pv 2) pa_nil)) (pa_cons (pe_makeK0 T.made Gi hr5 (by rfl) T.mgC kbi pass0 (pk_cons (pe_callTy call_list_of (by rfl) B.list (by decide +kernel) (pa_cons (pv 1) pa_nil)) pk_nil)) pa_nil)) (by rfl))
      (pss_cons (ps_expr (pe_bm PySem.F.plainAttrs_list PySem.F.slot_list_append PySem.F.type_list_append mt_append (pv 2) (pa_cons pe_str pa_nil)))
      (pss_cons (ps_expr (pe_bm0 PySem.F.plainAttrs_list PySem.F.slot_list_reverse PySem.F.type_list_reverse mt_reverse (pv 2)))
      (pss_cons (ps_set (i := 6) scFits.nd rfl (Or.inl rfl) (pe_prop (pv 4) T.cl hpp Gw hr5 bw .nil pass0 rfl))
      (pss_cons (ps_if (PW.pt (pw_or (pt_cmpR op_ne (pe_callB (call_repr hG hr.units) (by rfl) B.repr (by decide +kernel) (pa_cons (pv 6) pa_nil)) (pv 3) (nomark _)) (pw_or1 (pt_not (pt_val (pe_callB call_isi (by rfl) B.isinstance (by decide +kernel) (pa_cons (pv 4) (pa_cons (pe_glob (v := .ref C) rfl T.mgC rfl) pa_nil)))))))) (pss_one (ps_ret pe_bl)) pss_nil)
      (pss_cons (ps_expr (pe_bm0 PySem.F.plainAttrs_list PySem.F.slot_list_clear PySem.F.type_list_clear mt_clear (pv 6)))
      (pss_cons (ps_if (PW.pt (pw_or (pt_cmpR op_ne (pe_callB (call_repr hG hr.units) (by rfl) B.repr (by decide +kernel) (pa_cons (pe_prop (pv 4) T.cl hpp Gw hr5 bw .nil pass0 rfl) pa_nil)) (pv 3) (nomark _)) (pw_or (pt_cmpR (op_neOwn T.eqc Ge be pass0 hr5) (pv 4) (pv 5) (nomark _)) (pw_or1 (pt_not (pt_cmpR (op_eqOwn T.eqc Ge be pass0 hr4) (pv 4) (pv 5) (nomark _))))))) (pss_one (ps_ret pe_bl)) pss_nil)
      (pss_cons (ps_set (i := 7) scFits.nd rfl (Or.inl rfl) (pe_revL (pv 1)))
      (pss_cons (ps_if (pt_cmpR op_ne (pe_cmpR (op_eqOwn T.eqc Ge be pass0 hr4) (pv 4) (pe_make T.made Gi hr5 (by rfl) T.mgC bi .nil pass0 (pa_cons (pv 7) pa_nil)) (nomark _)) (pe_cmpR (op_eqD hr.units) (pv 7) (pv 1) (nomark _)) (nomark _)) (pss_one (ps_ret pe_bl)) pss_nil)
      (pss_cons (ps_set (i := 8) scFits.nd rfl (Or.inl rfl) (pe_make T.made Gi hr5 (by rfl) T.mgC bi .nil pass0 (pa_cons (pe_slice sl_list (pv 1) po_none (po_some pe_int)) pa_nil)))
      (pss_cons (ps_for PassesOwn.never rfl (pi_list (pe_lst (pa_cons (pv 1) (pa_cons (pe_callTy call_tuple_of (by rfl) B.tuple (by decide +kernel) (pa_cons (pv 1) pa_nil)) (pa_cons (pe_join pe_str (pv 1)) (pa_cons (pe_ix ix_list (pv 1) pe_int (fun _ _ => rfl)) (pa_cons pe_non (pa_cons pe_int (pa_cons (pv 3) pa_nil))))))))) (pg_name (i := 9) scFits.nd rfl (Or.inl rfl)) (pss_one (ps_if (PW.pt (pw_or (pt_cmpR (op_eqOwn T.eqc Ge be pass0 hr4) (pv 4) (pv 9) (nomark _)) (pw_or1 (pt_not (pt_cmpR (op_neOwn T.eqc Ge be pass0 hr5) (pv 4) (pv 9) (nomark _)))))) (pss_one (ps_ret pe_bl)) pss_nil)))
      (pss_one (ps_ret (pe_and (pe_cmpR op_eq (pe_cmpR (op_eqOwn T.eqc Ge be pass0 hr4) (pv 4) (pv 8) (nomark _)) (pe_cmpR op_eq (pe_callB call_len_seq (by rfl) B.len PySem.boot_len (pa_cons (pv 1) pa_nil)) pe_int (nomark _)) (nomark _)) (pe_one (pe_cmpR op_eq (pe_callB (call_repr hG hr.units) (by rfl) B.repr (by decide +kernel) (pa_cons (pe_prop (pv 5) T.cl hpp Gw hr5 bw .nil pass0 rfl) pa_nil)) (pv 3) (nomark _))))))))))))))))))), ?_⟩
    refine set_mid (fun v H' => ∃ (l : Addr) (ws : List Str), v = .ref l ∧ l ≠ p ∧ H' l = some (.lst (ws.map V.str)) ∧ Good ws ∧ PoolAt H' p (n + 510) ∧ SameBut p H H') ?_ ?_
    · intro N hN
      refine ⟨_, rfl, p, _, n, rfl, hp, by omega, by decide, by decide, fun x H1 x0 x1 hp1 b1 => ⟨rfl, _, rfl, ?_⟩⟩
      by_cases c : V.int x = V.int 0
      · rw [decide_eq_true c]
        refine iteT ?_
        refine ⟨_, rfl, p, _, rfl, hp1, by omega, fun l ws H2 nl hl lo l1 l8 hp2 b2 => hN _ _ ⟨l, ws, rfl, ?_, hl, good_lot lo l1 l8, hp2.le (by omega), b1.trans b2⟩⟩
        obtain ⟨_, _, _, e, _⟩ := hp1
        exact (ne_of_none e nl).symm
      · rw [decide_eq_false c]
        refine iteF ?_
        refine ⟨_, rfl, p, 8, 8, _, rfl, hp1, by omega, by decide, by decide, by decide, by decide, fun l ws H2 nl hl lo l1 l8 hp2 b2 => hN _ _ ⟨l, ws, rfl, ?_, hl, good_lot lo l1 (by omega), hp2.le (by omega), b1.trans b2⟩⟩
        obtain ⟨_, _, _, e, _⟩ := hp1
        exact (ne_of_none e nl).symm
    rintro v H1 ⟨l, ws, rfl, nlp, hl, g, hp1, b1⟩
    have sok := g.sok
    have hm8 : ∀ x ∈ ws, x.length ≤ 8 := fun x hx => (isW_len (g.w x hx)).2
    have hw8 : ws.length * (8 + 2) ≤ 7000 := by have := g.hi; omega
    -- passed, kept
    refine ⟨_, rfl, l, _, rfl, .inl (SqL.of hl), fun pa npa => ?_⟩
    have s2 := same_upd (o := .lst (ws.map V.str)) npa
    have hpa : (upd H1 pa (.lst (ws.map V.str))) pa = some (.lst (ws.map V.str)) := upd_same
    have npl : l ≠ pa := ne_of_none hl npa
    have npp : p ≠ pa := by
      obtain ⟨_, _, _, e, _⟩ := hp1
      exact ne_of_none e npa
    have npa0 : H pa = none := b1.free (Ne.symm npp) npa
    generalize upd H1 pa (.lst (ws.map V.str)) = H2 at s2 hpa ⊢
    obtain ⟨r1, r2, r3, r4, r5⟩ := repr_strs (K := K) (SqL.of (s2 _ _ hl)) sok 8 hm8 hw8
    refine ⟨_, rfl, l, _, rfl, r1, r2, r3, r4, r5, _, _, rfl, ?_⟩
    -- made, again
    refine ⟨_, rfl, ?_⟩
    intro m mdx nm nmdx nemdx
    refine ⟨m, mdx, pa, ws, rfl, upd_same, (mk_s0 nm nmdx).seq (SqL.of hpa), g, fun H3 st3 kp3 => ⟨rfl, ?_⟩⟩
    have s3 : Same H2 H3 := mk_same nm nmdx kp3
    refine ⟨_, rfl, l, _, rfl, .inl (SqL.of (s3 _ _ (s2 _ _ hl))), fun l2 nl2 => ?_⟩
    have s4 := same_upd (o := .lst (ws.map V.str)) nl2
    have hl2 : (upd H3 l2 (.lst (ws.map V.str))) l2 = some (.lst (ws.map V.str)) := upd_same
    generalize upd H3 l2 (.lst (ws.map V.str)) = H4 at s4 hl2 ⊢
    refine ⟨rfl, rfl, ?_⟩
    intro ag agx nag nagx neagx
    refine ⟨ag, agx, l2, ws, rfl, upd_same, (mk_s0 nag nagx).seq (SqL.of hl2), g, fun H5 st5 kp5 => ⟨rfl, _, _, rfl, ?_⟩⟩
    have s5 : Same H4 H5 := mk_same nag nagx kp5
    have s25 : Same H2 H5 := (s3.trans s4).trans s5
    have hl5 : H5 l = some (.lst (ws.map V.str)) := s25 _ _ (s2 _ _ hl)
    have hpa5 := s25 _ _ hpa
    have stm5 : StkAt C H5 m ws := (st3.same s4).same s5
    have b5 : SameBut p H H5 := b1.trans (Same.but (s2.trans s25))
    have hp5 : PoolAt H5 p (n + 510) := hp1.same (s2.trans s25)
    -- passed.append, passed.reverse
    refine ⟨_, rfl, .inl ⟨rfl, _, SqL.of hpa5⟩, pa, _, _, rfl, rfl, hpa5, ?_, ?_⟩
    · rw [List.length_map]
      exact Nat.lt_of_le_of_lt g.hi (by decide)
    refine ⟨_, rfl, .inl ⟨rfl, _, SqL.of upd_same⟩, pa, _, rfl, rfl, upd_same, ?_⟩
    have b57 : SameBut pa H5 (upd (upd H5 pa (.lst (ws.map V.str ++ [.str "zz"]))) pa (.lst (ws.map V.str ++ [V.str "zz"]).reverse)) := but_upd.trans but_upd
    generalize (upd (upd H5 pa (.lst (ws.map V.str ++ [.str "zz"]))) pa (.lst (ws.map V.str ++ [V.str "zz"]).reverse)) = H7 at b57 ⊢
    have hl7 := b57 _ _ npl hl5
    have stm7 := stm5.butL hpa5 b57
    have sta7 := st5.butL hpa5 b57
    have hp7 : PoolAt H7 p (n + 510) := by
      obtain ⟨x0, x1, x2, e, r⟩ := hp5
      exact ⟨x0, x1, x2, b57 _ _ npp e, r⟩
    have b7 : SameBut p H H7 := fun b o nb e => b57 b o (ne_of_none e npa0) (b5 b o nb e)
    -- told
    obtain ⟨dx, tt, e1, e2⟩ := id stm7
    refine ⟨_, rfl, m, dx, _, rfl, e1, m, ws, rfl, stm7, fun t H8 nt s8 ht => ?_⟩
    have stm8 := stm7.same s8
    obtain ⟨q1, q2, q3, q4, q5⟩ := repr_strs (K := K) (SqL.of ht) sok 8 hm8 hw8
    refine ⟨_, rfl, t, _, rfl, q1, q2, q3, q4, q5, _, rfl, rfl, _, rfl, ?_⟩
    rw [decide_eq_true rfl]
    refine iteF ?_
    refine ⟨_, rfl, _, _, _, _, _, rfl, .own C, T.ty stm8, T.ki, _, rfl, iteF ?_⟩
    -- told.clear()
    refine ⟨_, rfl, .inl ⟨rfl, _, SqL.of ht⟩, t, _, rfl, rfl, ht, ?_⟩
    have nlt : l ≠ t := ne_of_none hl7 nt
    have npt : p ≠ t := by
      obtain ⟨_, _, _, e, _⟩ := hp7
      exact ne_of_none e nt
    have b89 : SameBut t H8 (upd H8 t (.lst [])) := but_upd
    generalize upd H8 t (.lst []) = H9 at b89 ⊢
    have hl9 := b89 _ _ nlt (s8 _ _ hl7)
    have stm9 := stm8.butL ht b89
    have sta9 := (sta7.same s8).butL ht b89
    have hp9 : PoolAt H9 p (n + 510) := by
      obtain ⟨x0, x1, x2, e, r⟩ := hp7
      exact ⟨x0, x1, x2, b89 _ _ npt (s8 _ _ e), r⟩
    have b9 : SameBut p H H9 := fun b o nb e => b89 b o (ne_of_none (b7 b o nb e) nt) (s8 _ _ (b7 b o nb e))
    -- repr(made.words) != kept
    obtain ⟨dx9, t9, e19, e29⟩ := id stm9
    refine ⟨_, rfl, m, dx9, _, rfl, e19, m, ws, rfl, stm9, fun u H10 nu s10 hu => ?_⟩
    obtain ⟨q1, q2, q3, q4, q5⟩ := repr_strs (K := K) (SqL.of hu) sok 8 hm8 hw8
    refine ⟨u, _, rfl, q1, q2, q3, q4, q5, _, rfl, rfl, _, rfl, ?_⟩
    rw [decide_eq_true rfl]
    refine iteF ?_
    have stm10 := stm9.same s10
    have sta10 := sta9.same s10
    refine ⟨_, rfl, _, rfl, m, dx9, _, .ref C, rfl, s10 _ _ e19, T.ty sta10, nf_self K C, m, ws, .ref ag, .ref C, rfl, stm10, g, T.ty sta10, .inl ⟨ag, ws, rfl, sta10, g, rfl, fun H11 s11 => ⟨_, rfl, _, rfl, ?_⟩⟩⟩
    have ef : (if true = true then !decide (ws = ws) else decide (ws = ws)) = false := by simp
    have et : (if false = true then !decide (ws = ws) else decide (ws = ws)) = true := by simp
    rw [ef]
    refine iteF ?_
    have stm11 := stm10.same s11
    have sta11 := sta10.same s11
    refine ⟨_, rfl, _, rfl, m, dx9, _, .ref C, rfl, s11 _ _ (s10 _ _ e19), T.ty sta11, nf_self K C, m, ws, .ref ag, .ref C, rfl, stm11, g, T.ty sta11, .inl ⟨ag, ws, rfl, sta11, g, rfl, fun H12 s12 => ⟨_, rfl, _, rfl, ?_⟩⟩⟩
    rw [et]
    refine iteF ?_
    have s9c : Same H9 H12 := (s10.trans s11).trans s12
    have hl12 := s9c _ _ hl9
    have stm12 := stm9.same s9c
    -- turned
    refine ⟨_, rfl, l, _, rfl, SqL.of hl12, fun tu ntu => ?_⟩
    rw [← List.map_reverse]
    have s13 := same_upd (o := .lst (ws.reverse.map V.str)) ntu
    have htu : (upd H12 tu (.lst (ws.reverse.map V.str))) tu = some (.lst (ws.reverse.map V.str)) := upd_same
    generalize upd H12 tu (.lst (ws.reverse.map V.str)) = H13 at s13 htu ⊢
    have gr := good_rev g
    refine ⟨_, rfl, _, rfl, ?_⟩
    intro y ydx ny nydx neydx
    refine ⟨y, ydx, tu, ws.reverse, rfl, upd_same, (mk_s0 ny nydx).seq (SqL.of htu), gr, fun H14 sty kpy => ⟨rfl, ?_⟩⟩
    have s14 : Same H13 H14 := mk_same ny nydx kpy
    have stm14 := (stm12.same s13).same s14
    refine ⟨m, dx9, _, .ref C, rfl, s14 _ _ (s13 _ _ (s9c _ _ e19)), T.ty sty, nf_self K C, m, ws, .ref y, .ref C, rfl, stm14, g, T.ty sty, .inl ⟨y, ws.reverse, rfl, sty, gr, rfl, fun H15 s15 => ⟨_, rfl, ?_⟩⟩⟩
    have htu15 := s15 _ _ (s14 _ _ htu)
    have hl15 := s15 _ _ (s14 _ _ (s13 _ _ hl12))
    refine ⟨_, rfl, _, rfl, _, _, dp_lst (SqL.of htu15), dp_lst (SqL.of hl15), sh_lst gr.sok, sh_lst sok, rfl, _, rfl, ?_⟩
    have er : (!decide (V.bl (if false = true then !decide (ws = ws.reverse) else decide (ws = ws.reverse)) = V.bl (PyData.eqv (.list (dStrs ws.reverse)) (.list (dStrs ws))))) = false := by
      rw [eqv_lst, if_neg Bool.false_ne_true]
      have e' : decide (ws = ws.reverse) = decide (ws.reverse = ws) := by
        by_cases c : ws = ws.reverse
        · rw [decide_eq_true c, decide_eq_true c.symm]
        · rw [decide_eq_false c, decide_eq_false (fun z => c z.symm)]
      rw [e']
      simp
    rw [er]
    refine iteF ?_
    -- fewer
    have s12f : Same H12 H15 := (s13.trans s14).trans s15
    refine ⟨_, rfl, _, rfl, l, _, rfl, SqL.of hl15, fun f1 nf1 => ?_⟩
    rw [cutV_take ws (by decide), show (1 : Int).toNat = 1 by rfl]
    have s16 := same_upd (o := .lst ((ws.take 1).map V.str)) nf1
    have hf1 : (upd H15 f1 (.lst ((ws.take 1).map V.str))) f1 = some (.lst ((ws.take 1).map V.str)) := upd_same
    generalize upd H15 f1 (.lst ((ws.take 1).map V.str)) = H16 at s16 hf1 ⊢
    have gt := good_take g
    intro fr frdx nfr nfrdx nefr
    refine ⟨fr, frdx, f1, ws.take 1, rfl, upd_same, (mk_s0 nfr nfrdx).seq (SqL.of hf1), gt, fun H17 stf kpf => ⟨rfl, ?_⟩⟩
    have s17 : Same H16 H17 := mk_same nfr nfrdx kpf
    have s12_17 : Same H12 H17 := (s12f.trans s16).trans s17
    have hl17 := s12_17 _ _ hl12
    have stm17 := stm12.same s12_17
    have e17 := s12_17 _ _ (s9c _ _ e19)
    -- the seven things
    refine ⟨_, rfl, _, rfl, l, _, rfl, .inl ⟨SqL.of hl17, fun tp ntp => ?_⟩⟩
    have s18 := same_upd (o := .tup (ws.map V.str)) ntp
    have htp : (upd H17 tp (.tup (ws.map V.str))) tp = some (.tup (ws.map V.str)) := upd_same
    generalize upd H17 tp (.tup (ws.map V.str)) = H18 at s18 htp ⊢
    have hl18 := s18 _ _ hl17
    have w0 : ∃ x0 r0, ws = x0 :: r0 := by
      cases ws with
      | nil => exact absurd g.lo (by simp)
      | cons a b => exact ⟨a, b, rfl⟩
    obtain ⟨x0, r0, ew⟩ := w0
    refine ⟨⟨_, rfl⟩, _, rfl, " ", l, ws, rfl, rfl, .inl (SqL.of hl18), ?_, ?_⟩
    · have hsum : ∀ (zs : List Str), (∀ x ∈ zs, x.length ≤ 8) → (zs.map (·.length)).sum ≤ 8 * zs.length := by
        intro zs
        induction zs with
        | nil => intro _; simp
        | cons a b ih =>
          intro h
          have h1 := ih fun x hx => h x (List.mem_cons_of_mem _ hx)
          have h2 := h a List.mem_cons_self
          simp only [List.map_cons, List.sum_cons, List.length_cons]
          omega
      have h1 := hsum ws hm8
      have h2 := g.hi
      have h3 : (" " : Str).length = 1 := rfl
      rw [h3]
      omega
    refine ⟨_, rfl, l, _, _, .str x0, rfl, rfl, SqL.of hl18, atI_nat (j := 0) (by rw [ew]; rfl), ?_⟩
    refine ⟨_, rfl, (by show 7 ≤ sizeLine; decide), fun li nli => ?_⟩
    have s19 := same_upd (o := .lst [.ref l, .ref tp, .str (Txt.join " " ws), .str x0, .non, .int 0, .str (PyData.list (dStrs ws)).shown]) nli
    have hli : (upd H18 li (.lst [.ref l, .ref tp, .str (Txt.join " " ws), .str x0, .non, .int 0, .str (PyData.list (dStrs ws)).shown])) li = some (.lst [.ref l, .ref tp, .str (Txt.join " " ws), .str x0, .non, .int 0, .str (PyData.list (dStrs ws)).shown]) := upd_same
    have all : ∀ x ∈ [V.ref l, .ref tp, .str (Txt.join " " ws), .str x0, .non, .int 0, .str (PyData.list (dStrs ws)).shown], ∀ H', Same H18 H' → Oth K C H' x := by
      intro x hx H' s'
      simp only [List.mem_cons, List.not_mem_nil, or_false] at hx
      rcases hx with rfl | rfl | rfl | rfl | rfl | rfl | rfl
      · exact ⟨_, .base (.lst (s' _ _ hl18)), O.l⟩
      · exact ⟨_, .base (.tup (s' _ _ htp)), O.t⟩
      · exact ⟨_, .base (.str _), O.s⟩
      · exact ⟨_, .base (.str _), O.s⟩
      · exact ⟨_, .base .non, O.n⟩
      · exact ⟨_, .base (.int _), O.i⟩
      · exact ⟨_, .base (.str _), O.s⟩
    refine ⟨li, rfl, ⟨_, SqL.of hli⟩, for_list (K := K) (a := li) (xs := [.ref l, .ref tp, .str (Txt.join " " ws), .str x0, .non, .int 0, .str (PyData.list (dStrs ws)).shown])
      (fun i σ H' => ∃ v9 : Option V, σ = [some (.ref p), some (.ref l), some (.ref pa), some (.str (PyData.list (dStrs ws)).shown), some (.ref m), some (.ref ag), some (.ref t), some (.ref tu), some (.ref fr), v9] ∧ Same (upd H18 li (.lst [.ref l, .ref tp, .str (Txt.join " " ws), .str x0, .non, .int 0, .str (PyData.list (dStrs ws)).shown])) H')
      ⟨none, rfl, Same.refl _⟩ (fun i σ H' _ ⟨_, _, s'⟩ => s'.seq (SqL.of hli)) ?_ ?_⟩
    · rintro i x σ H' hi ⟨v9, rfl, s'⟩
      obtain ⟨ty, tyx, nf, kf⟩ := all x (List.mem_of_getElem? hi) H' (s19.trans s')
      have stm' := ((stm17.same s18).same s19).same s'
      have e' := s' _ _ (s19 _ _ (s18 _ _ e17))
      refine ⟨_, rfl, _, rfl, m, dx9, _, ty, rfl, e', tyx, nf, m, ws, x, ty, rfl, stm', g, tyx, .inr ⟨kf, _, rfl, _, rfl, ?_⟩⟩
      rw [if_neg Bool.false_ne_true]
      refine iteF ?_
      refine ⟨_, rfl, _, rfl, m, dx9, _, ty, rfl, e', tyx, nf, m, ws, x, ty, rfl, stm', g, tyx, .inr ⟨kf, _, rfl, _, rfl, ?_⟩⟩
      rw [if_pos rfl]
      refine iteF ?_
      exact ⟨_, rfl, s'⟩
    · rintro σ H20 ⟨v9, rfl, s20⟩
      have s17_20 : Same H17 H20 := (s18.trans s19).trans s20
      have stm20 := stm17.same s17_20
      have stf20 := stf.same s17_20
      have hl20 := s17_20 _ _ hl17
      refine ⟨_, rfl, _, rfl, m, dx9, _, .ref C, rfl, s17_20 _ _ e17, T.ty stf20, nf_self K C, m, ws, .ref fr, .ref C, rfl, stm20, g, T.ty stf20, .inl ⟨fr, ws.take 1, rfl, stf20, gt, rfl, fun H21 s21 => ⟨_, rfl, ?_⟩⟩⟩
      refine ⟨_, rfl, l, _, rfl, .inl (SqL.of (s21 _ _ hl20)), rfl, rfl, _, rfl, ?_⟩
      have er : decide (V.bl (if false = true then !decide (ws = ws.take 1) else decide (ws = ws.take 1)) = V.bl (decide (V.int (((ws.map V.str).length : Nat) : Int) = V.int 1))) = true := by
        rw [if_neg Bool.false_ne_true]
        apply decide_eq_true
        congr 1
        have h1 := g.lo
        by_cases c : ws.length = 1
        · rw [decide_eq_true (show ws = ws.take 1 by rw [List.take_of_length_le (by omega)]), decide_eq_true (show V.int (((ws.map V.str).length : Nat) : Int) = V.int 1 by rw [List.length_map, c]; rfl)]
        · have n1 : ¬ ws = ws.take 1 := fun z => by
            have := congrArg List.length z
            rw [List.length_take] at this
            omega
          have n2 : ¬ V.int (((ws.map V.str).length : Nat) : Int) = V.int 1 := fun z => by
            have z' := V.int.inj z
            rw [List.length_map] at z'
            omega
          rw [decide_eq_false n1, decide_eq_false n2]
      rw [er]
      refine iteT ?_
      have s12_21 : Same H12 H21 := (s12_17.trans s17_20).trans s21
      have sta21 := (sta9.same s9c).same s12_21
      obtain ⟨dxa, ta, a1, a2⟩ := id sta21
      refine ⟨_, rfl, ag, dxa, _, rfl, a1, ag, ws, rfl, sta21, fun u2 H22 nu2 s22 hu2 => ?_⟩
      obtain ⟨q1, q2, q3, q4, q5⟩ := repr_strs (K := K) (SqL.of hu2) sok 8 hm8 hw8
      refine ⟨u2, _, rfl, q1, q2, q3, q4, q5, _, rfl, rfl, ?_⟩
      rw [decide_eq_true rfl]
      have s9_22 : Same H9 H22 := (s9c.trans s12_21).trans s22
      exact q H22 ((hp9.same s9_22).le (by omega)) (b9.trans (Same.but s9_22))
end
end WH
namespace WH
open PySem PySem.Spec PyProof.Rows L2
section
variable {P : Program} {w : World} {K : PySem.W.Frag} {mg : Str → Option Value} {base : Heap}
theorem scLaw : FnScope ["script", "spot", "pool", "turn"] ["script"] (defScope sLaw) := ⟨rfl, rfl, rfl, by decide +kernel, rfl, by decide +kernel, by decide +kernel⟩
def spLaw (K : PySem.W.Frag) : Sp := fun vs H Q _ => ∃ (a : Addr) (ns : List Int), vs = [.ref a] ∧ SqL K H a (ns.map V.int) ∧ ns.length ≤ 63 ∧ ∀ H', Q (.bl true) H'
theorem ok_law {f fP fF : Addr} {fd fdP fdF : FuncData} (F : Fun K "law" "law" sLaw f fd) (B : Bu mg) (PL : Cal P w K mg base 1 "_law_pool" ["script", "spot"] (spPool K) fP fdP) (FT : FnG P w K mg base CX0 8 fF fdF ["pool"] spFits) (bF : Binds K fdF ["pool"] []) (kF : PySem.W.keepIn K (.ref fF) = true) (gF : mg "_law_fits" = some (.ref fF)) : FnG P w K mg base CX0 9 f fd ["script"] (spLaw K) := by
  refine WH.Fun.okG F scLaw (fun vs H Q E h => ?_) (fun cdv A outer s H vs Q E hr hG h => ?_)
  · obtain ⟨a, ns, rfl, _⟩ := h
    rfl
  · obtain ⟨a, ns, rfl, hS, hlen, q⟩ := h
    have hr1 : Room 1 _ := hr.mono (by decide)
    refine ⟨_, (pss_cons (ps_for PassesOwn.never rfl (pi_range1 (by rfl) B.range (pa_cons (pe_callB (call_max2 rfl) (by rfl) B.max (by decide +kernel) (pa_cons pe_int (pa_cons (pe_callB (call_min2 rfl) (by rfl) B.min (by decide +kernel) (pa_cons pe_int (pa_cons (pe_callB call_len_seq (by rfl) B.len PySem.boot_len (pa_cons (pv 0) pa_nil)) pa_nil))) pa_nil))) pa_nil)) (pg_name (i := 1) scLaw.nd rfl (Or.inl rfl)) (pss_cons (ps_set (i := 2) scLaw.nd rfl (Or.inl rfl) (pe_call PL.G hr1 (by rfl) PL.g PL.k PL.b .nil pass0 (pa_cons (pv 0) (pa_cons (pv 1) pa_nil))))
      (pss_one (ps_for PassesOwn.never rfl (pi_range1 (by rfl) B.range (pa_cons pe_int pa_nil)) (pg_name (i := 3) scLaw.nd rfl (Or.inl rfl)) (pss_one (ps_if (pt_not (pt_val (pe_callG FT hr hG (by rfl) gF kF bF pass0 (pa_cons (pv 2) pa_nil)))) (pss_one (ps_ret pe_bl)) pss_nil))))))
      (pss_one (ps_ret pe_bl))), ?_⟩
    have jb : ∀ x : Int, 0 ≤ x → x ≤ 63 → 1 ≤ (if (if x < 6 then x else 6) > 1 then (if x < 6 then x else 6) else 1) ∧ (if (if x < 6 then x else 6) > 1 then (if x < 6 then x else 6) else 1) ≤ 6 := by
      intro x h0 h1
      split <;> split at * <;> omega
    obtain ⟨j1, j6⟩ := jb ((((ns.map V.int).length : Nat) : Int)) (by omega) (by rw [List.length_map]; omega)
    refine ⟨_, rfl, a, _, rfl, .inl hS, _, _, rfl, _, _, rfl, _, rfl, by omega, by omega, ?_⟩
    refine for_range (lo := 0) (fun i σ H2 => ∃ v1 v2 v3 : Option V, σ = [some (.ref a), v1, v2, v3] ∧ Same H H2) ⟨none, none, none, rfl, Same.refl _⟩ ?_ ?_
    · rintro i σ H2 hi ⟨v1, v2, v3, rfl, s2⟩
      have hi6 : i < 6 := by omega
      refine ⟨_, rfl, _, rfl, a, ns, i, by simp, s2.seq hS, by omega, fun p H3 np s3 hp3 => ?_⟩
      refine ⟨_, rfl, by decide, by decide, ?_⟩
      have s23 : Same H H3 := s2.trans s3
      have np0 : H p = none := s2.free np
      refine for_range (lo := 0) (fun t σ H4 => ∃ v3 : Option V, σ = [some (.ref a), some (.int (0 + i)), some (.ref p), v3] ∧ Same H H4 ∧ PoolAt H4 p (600 * t)) ⟨v3, rfl, s23, hp3.le (by simp)⟩ ?_ ?_
      · rintro t σ H4 ht ⟨v3', rfl, s4, hp4⟩
        have ht6 : t < 5 := ht
        refine ⟨_, rfl, p, _, rfl, hp4, by omega, fun H5 hp5 b5 => ⟨_, rfl, iteF ?_⟩⟩
        exact ⟨_, rfl, fun b o e => b5 b o (ne_of_none e np0) (s4 b o e), hp5.le (by omega)⟩
      · rintro σ H4 ⟨v3', rfl, s4, hp4⟩
        exact ⟨_, _, _, rfl, s4⟩
    · rintro σ H2 ⟨v1, v2, v3, rfl, s2⟩
      exact q H2
end
theorem all_mk {l : PySem.W.OpenLaw} {w : World} {K : PySem.W.Frag} {h : Heap} {mg : Str → Option Value} {fa C pW f1 f2 f3 f6 f7 f8 f9 f4 f10 f11 f12 f13 f14 : Addr} {tL tM tN : Tok} {nmC qC : Str} {NC : Addr} {bsC : List Value} {snC : List Str} {subC : List Value} {abC : Bool} {colC : Option Bool} {ddC : Option Addr} {m0 m1 m2 m3 m5 : Option Value} {restP : List Value} (X : K.In h) (G : h.Ns mainGlobals mg) (hfa : mg "law" = some (.ref fa))
    {od1 an1 od2 an2 od3 an3 od6 an6 od7 an7 od8 an8 od9 an9 od4 an4 od10 an10 od11 an11 od12 an12 od13 an13 od14 an14 : Option Addr} {sl1 sl2 sl3 sl6 sl7 sl8 sl9 sl4 sl10 sl11 sl12 sl13 sl14 : Array (Option Value)} {oc1 kV1 dc1 pm1 cd1 ct1 oc2 kV2 dc2 pm2 cd2 ct2 oc3 kV3 dc3 pm3 cd3 ct3 oc6 kV6 dc6 pm6 cd6 ct6 oc7 kV7 dc7 pm7 cd7 ct7 oc8 kV8 dc8 pm8 cd8 ct8 oc9 kV9 dc9 pm9 cd9 ct9 oc4 kV4 dc4 pm4 cd4 ct4 oc10 kV10 dc10 pm10 cd10 ct10 oc11 kV11 dc11 pm11 cd11 ct11 oc12 kV12 dc12 pm12 cd12 ct12 oc13 kV13 dc13 pm13 cd13 ct13 oc14 kV14 dc14 pm14 cd14 ct14 : Value}
    (a1 : PySem.W.nsIn K mainGlobals "is_letters" = some (some (.ref f1))) (l1 : K.lookup f1 = some ⟨oc1, od1, .func (PySem.W.fnOf "is_letters" "is_letters" (defArgs sIsLetters) (defBody sIsLetters) (defScope sIsLetters) .none kV1 dc1 pm1 an1 cd1 ct1), sl1⟩) (c1 : PySem.W.codeIn K cd1 "is_letters" = true) (k1 : PySem.W.keepIn K (.ref f1) = true)
    (a2 : PySem.W.nsIn K mainGlobals "is_word" = some (some (.ref f2))) (l2 : K.lookup f2 = some ⟨oc2, od2, .func (PySem.W.fnOf "is_word" "is_word" (defArgs sIsWord) (defBody sIsWord) (defScope sIsWord) .none kV2 dc2 pm2 an2 cd2 ct2), sl2⟩) (c2 : PySem.W.codeIn K cd2 "is_word" = true) (k2 : PySem.W.keepIn K (.ref f2) = true)
    (a3 : PySem.W.nsIn K mainGlobals "check_words" = some (some (.ref f3))) (l3 : K.lookup f3 = some ⟨oc3, od3, .func (PySem.W.fnOf "check_words" "check_words" (defArgs sCheckWords) (defBody sCheckWords) (defScope sCheckWords) .none kV3 dc3 pm3 an3 cd3 ct3), sl3⟩) (c3 : PySem.W.codeIn K cd3 "check_words" = true) (k3 : PySem.W.keepIn K (.ref f3) = true)
    (a6 : PySem.W.nsIn K mainGlobals "_law_pool" = some (some (.ref f6))) (l6 : K.lookup f6 = some ⟨oc6, od6, .func (PySem.W.fnOf "_law_pool" "_law_pool" (defArgs sPool) (defBody sPool) (defScope sPool) .none kV6 dc6 pm6 an6 cd6 ct6), sl6⟩) (c6 : PySem.W.codeIn K cd6 "_law_pool" = true) (k6 : PySem.W.keepIn K (.ref f6) = true)
    (a7 : PySem.W.nsIn K mainGlobals "_law_draw" = some (some (.ref f7))) (l7 : K.lookup f7 = some ⟨oc7, od7, .func (PySem.W.fnOf "_law_draw" "_law_draw" (defArgs sDraw) (defBody sDraw) (defScope sDraw) .none kV7 dc7 pm7 an7 cd7 ct7), sl7⟩) (c7 : PySem.W.codeIn K cd7 "_law_draw" = true) (k7 : PySem.W.keepIn K (.ref f7) = true)
    (a8 : PySem.W.nsIn K mainGlobals "_law_word" = some (some (.ref f8))) (l8 : K.lookup f8 = some ⟨oc8, od8, .func (PySem.W.fnOf "_law_word" "_law_word" (defArgs sWord) (defBody sWord) (defScope sWord) .none kV8 dc8 pm8 an8 cd8 ct8), sl8⟩) (c8 : PySem.W.codeIn K cd8 "_law_word" = true) (k8 : PySem.W.keepIn K (.ref f8) = true)
    (a9 : PySem.W.nsIn K mainGlobals "_law_lot" = some (some (.ref f9))) (l9 : K.lookup f9 = some ⟨oc9, od9, .func (PySem.W.fnOf "_law_lot" "_law_lot" (defArgs sLot) (defBody sLot) (defScope sLot) .none kV9 dc9 pm9 an9 cd9 ct9), sl9⟩) (c9 : PySem.W.codeIn K cd9 "_law_lot" = true) (k9 : PySem.W.keepIn K (.ref f9) = true)
    (a4 : PySem.W.nsIn K mainGlobals "_law_known" = some (some (.ref f4))) (l4 : K.lookup f4 = some ⟨oc4, od4, .func (PySem.W.fnOf "_law_known" "_law_known" (defArgs sKnown) (defBody sKnown) (defScope sKnown) .none kV4 dc4 pm4 an4 cd4 ct4), sl4⟩) (c4 : PySem.W.codeIn K cd4 "_law_known" = true) (k4 : PySem.W.keepIn K (.ref f4) = true)
    (a10 : PySem.W.nsIn K mainGlobals "_law_fits" = some (some (.ref f10))) (l10 : K.lookup f10 = some ⟨oc10, od10, .func (PySem.W.fnOf "_law_fits" "_law_fits" (defArgs sFits) (defBody sFits) (defScope sFits) .none kV10 dc10 pm10 an10 cd10 ct10), sl10⟩) (c10 : PySem.W.codeIn K cd10 "_law_fits" = true) (k10 : PySem.W.keepIn K (.ref f10) = true)
    (a11 : PySem.W.nsIn K mainGlobals "law" = some (some (.ref f11))) (l11 : K.lookup f11 = some ⟨oc11, od11, .func (PySem.W.fnOf "law" "law" (defArgs sLaw) (defBody sLaw) (defScope sLaw) .none kV11 dc11 pm11 an11 cd11 ct11), sl11⟩) (c11 : PySem.W.codeIn K cd11 "law" = true) (k11 : PySem.W.keepIn K (.ref f11) = true)
    (a12 : PySem.W.findIn K (.ref C) "__init__" = some (some (.ref f12))) (i12 : PySem.W.isFn K (.ref f12) = true) (l12 : K.lookup f12 = some ⟨oc12, od12, .func (PySem.W.fnOf "__init__" "Stock.__init__" (defArgs sSInit) (defBody sSInit) (defScope sSInit) .none kV12 dc12 pm12 an12 cd12 ct12), sl12⟩) (c12 : PySem.W.codeIn K cd12 "Stock.__init__" = true) (k12 : PySem.W.keepIn K (.ref f12) = true)
    (a13 : PySem.W.findIn K (.ref C) "__eq__" = some (some (.ref f13))) (i13 : PySem.W.isFn K (.ref f13) = true) (l13 : K.lookup f13 = some ⟨oc13, od13, .func (PySem.W.fnOf "__eq__" "Stock.__eq__" (defArgs sSEq) (defBody sSEq) (defScope sSEq) .none kV13 dc13 pm13 an13 cd13 ct13), sl13⟩) (c13 : PySem.W.codeIn K cd13 "Stock.__eq__" = true) (k13 : PySem.W.keepIn K (.ref f13) = true)
    (l14 : K.lookup f14 = some ⟨oc14, od14, .func (PySem.W.fnOf "words" "Stock.words" (defArgs sSWords) (defBody sSWords) (defScope sSWords) .none kV14 dc14 pm14 an14 cd14 ct14), sl14⟩) (c14 : PySem.W.codeIn K cd14 "Stock.words" = true) (k14 : PySem.W.keepIn K (.ref f14) = true)
    (vL : PySem.W.nsIn K mainGlobals "LETTERS" = some (some (.str LET tL)))
    (vM : PySem.W.nsIn K mainGlobals "MOST_LETTERS" = some (some (.int 8 tM)))
    (vN : PySem.W.nsIn K mainGlobals "MOST_WORDS" = some (some (.int 8 tN)))
    (z_len : PySem.W.nsIn K mainGlobals "len" = some none)
    (z_max : PySem.W.nsIn K mainGlobals "max" = some none)
    (z_min : PySem.W.nsIn K mainGlobals "min" = some none)
    (z_abs : PySem.W.nsIn K mainGlobals "abs" = some none)
    (z_int : PySem.W.nsIn K mainGlobals "int" = some none)
    (z_range : PySem.W.nsIn K mainGlobals "range" = some none)
    (z_all : PySem.W.nsIn K mainGlobals "all" = some none)
    (z_set : PySem.W.nsIn K mainGlobals "set" = some none)
    (z_tuple : PySem.W.nsIn K mainGlobals "tuple" = some none)
    (z_list : PySem.W.nsIn K mainGlobals "list" = some none)
    (z_isinstance : PySem.W.nsIn K mainGlobals "isinstance" = some none)
    (z_repr : PySem.W.nsIn K mainGlobals "repr" = some none)
    (aC : PySem.W.nsIn K mainGlobals "Stock" = some (some (.ref C)))
    (pg : PySem.W.plainGet K C Str.empty = true)
    (hd : PySem.W.hasDictIn K C = true)
    (po : PySem.W.plainOver K C = true)
    (sa : PySem.W.findIn K (.ref C) "__setattr__" = some (some (.builtin "object.__setattr__")))
    (mk : PySem.W.makesIn K C = true)
    (kc : PySem.W.keepIn K (.ref C) = true)
    (nW : PySem.W.findIn K (.ref C) "_words" = some none)
    (xC : K.lookup C = some (excClassObj nmC qC C NC bsC [.type "object"] true snC subC abC colC ddC m0 m1 m2 m3 m5 "object.__new__"))
    (ne : PySem.W.findIn K (.ref C) "__ne__" = some (some (.builtin "object.__ne__")))
    (pa : PySem.W.findIn K (.ref C) "words" = some (some (.ref pW)))
    (pget : PySem.W.specialIn K (.ref pW) "__get__" = some (some (.builtin "property.__get__")))
    (ptk : PySem.W.takesIn K (.ref pW) = some true)
    (prc : PySem.W.recIn K pW "property" = some (.ref f14 :: restP))
    (ha : PySem.W.findIn K (.ref C) "__class__" = some (some (.builtin "object.__class__")))
    (hn : PySem.W.specialIn K (.builtin "object.__class__") "__get__" = some (some (.builtin "getset_descriptor.__get__")))
    (htk : PySem.W.takesIn K (.builtin "object.__class__") = some true)
    (hm : PySem.W.mroIn K C (.type "object") = some true)
    (ki : PySem.W.kitOne K (.ref C) (.ref C) = some true)
    (nfL : PySem.W.notFirst K C (.type "list") = true)
    (ktL : PySem.W.kitOne K (.type "list") (.ref C) = some false)
    (nfT : PySem.W.notFirst K C (.type "tuple") = true)
    (ktT : PySem.W.kitOne K (.type "tuple") (.ref C) = some false)
    (nfS : PySem.W.notFirst K C (.type "str") = true)
    (ktS : PySem.W.kitOne K (.type "str") (.ref C) = some false)
    (nfN : PySem.W.notFirst K C (.type "NoneType") = true)
    (ktN : PySem.W.kitOne K (.type "NoneType") (.ref C) = some false)
    (nfI : PySem.W.notFirst K C (.type "int") = true)
    (ktI : PySem.W.kitOne K (.type "int") (.ref C) = some false) :
    ∃ fd : FuncData, (∀ (s : Shared) (v : Value), BindsTo s fd ⟨[v], []⟩ [("script", v)]) ∧ ∀ base : Heap, K.In base → base.Ns mainGlobals mg → FnG l.prog w K mg base CX0 9 fa fd ["script"] (spLaw K) := by
  have e := hfa.symm.trans (PySem.W.mg_of X G a11)
  cases e
  have F1 := fun_mk (st := sIsLetters) l1 c1 k1
  have F2 := fun_mk (st := sIsWord) l2 c2 k2
  have F3 := fun_mk (st := sCheckWords) l3 c3 k3
  have F6 := fun_mk (st := sPool) l6 c6 k6
  have F7 := fun_mk (st := sDraw) l7 c7 k7
  have F8 := fun_mk (st := sWord) l8 c8 k8
  have F9 := fun_mk (st := sLot) l9 c9 k9
  have F4 := fun_mk (st := sKnown) l4 c4 k4
  have F10 := fun_mk (st := sFits) l10 c10 k10
  have F11 := fun_mk (st := sLaw) l11 c11 k11
  have F12 := fun_mk (st := sSInit) l12 c12 k12
  have F13 := fun_mk (st := sSEq) l13 c13 k13
  have F14 := fun_mk (st := sSWords) l14 c14 k14
  have b1 := F1.binds (ps := ["text"]) fun _ _ _ _ _ _ us hl => match us, hl with | [_], _ => rfl
  have b2 := F2.binds (ps := ["text"]) fun _ _ _ _ _ _ us hl => match us, hl with | [_], _ => rfl
  have b3 := F3.binds (ps := ["words"]) fun _ _ _ _ _ _ us hl => match us, hl with | [_], _ => rfl
  have b4 := F4.binds (ps := ["pool"]) fun _ _ _ _ _ _ us hl => match us, hl with | [_], _ => rfl
  have b6 := F6.binds (ps := ["script", "spot"]) fun _ _ _ _ _ _ us hl => match us, hl with | [_, _], _ => rfl
  have b7 := F7.binds (ps := ["pool", "span"]) fun _ _ _ _ _ _ us hl => match us, hl with | [_, _], _ => rfl
  have b8 := F8.binds (ps := ["pool", "widest", "signs"]) fun _ _ _ _ _ _ us hl => match us, hl with | [_, _, _], _ => rfl
  have b9 := F9.binds (ps := ["pool", "many", "widest"]) fun _ _ _ _ _ _ us hl => match us, hl with | [_, _, _], _ => rfl
  have b10 := F10.binds (ps := ["pool"]) fun _ _ _ _ _ _ us hl => match us, hl with | [_], _ => rfl
  have b12 := F12.binds (ps := ["self", "words"]) fun _ _ _ _ _ _ us hl => match us, hl with | [_, _], _ => rfl
  have b13 := F13.binds (ps := ["self", "other"]) fun _ _ _ _ _ _ us hl => match us, hl with | [_, _], _ => rfl
  have b14 := F14.binds (ps := ["self"]) fun _ _ _ _ _ _ us hl => match us, hl with | [_], _ => rfl
  have B : Bu mg := ⟨PySem.W.mg_none_of X G z_len, PySem.W.mg_none_of X G z_max, PySem.W.mg_none_of X G z_min, PySem.W.mg_none_of X G z_abs, PySem.W.mg_none_of X G z_int, PySem.W.mg_none_of X G z_range⟩
  have T : StkC K mg C f12 f13 f14 := ⟨⟨pg, hd, po, sa⟩, nW, PySem.W.mg_of X G aC, ⟨mk, a12, i12, kc⟩, ⟨⟨_, _, _, _, _, _, _, _, _, _, _, _, _, _, xC⟩, a13, ne, i13⟩, ⟨pW, pa, pget, ptk, ⟨_, prc⟩⟩, ha, hn, htk, hm, ki⟩
  have kbi : KBn K _ ["self", "words"] 1 ["words"] (fun us ws => us ++ ws) (fun us ws => us ++ ws) := kbn_words F12 fun _ _ _ _ _ _ us ws h1 h2 => match us, ws, h1, h2 with | [_], [_], _, _ => rfl
  have BX : BuX mg := ⟨B, PySem.W.mg_none_of X G z_repr, PySem.W.mg_none_of X G z_list, PySem.W.mg_none_of X G z_tuple, PySem.W.mg_none_of X G z_isinstance⟩
  have O : OthF K C := ⟨⟨nfL, ktL⟩, ⟨nfT, ktT⟩, ⟨nfS, ktS⟩, ⟨nfN, ktN⟩, ⟨nfI, ktI⟩⟩
  refine ⟨PySem.W.fnOf "law" "law" (defArgs sLaw) (defBody sLaw) (defScope sLaw) .none kV11 dc11 pm11 an11 cd11 ct11, fun s v => .of_eq rfl, fun base _ _ => ?_⟩
  have G1 : FnOk l.prog w K mg base CX0 1 f1 _ ["text"] spIsLetters := ok_isLetters F1 (PySem.W.mg_of X G vL) (PySem.W.mg_none_of X G z_all)
  have G2 : FnOk l.prog w K mg base CX0 2 f2 _ ["text"] spIsWord := ok_isWord F2 G1 b1 k1 (PySem.W.mg_of X G a1) (PySem.W.mg_of X G vM) B.len
  have G3 : FnOk l.prog w K mg base CX0 3 f3 _ ["words"] (spCheckWords K) := ok_checkWords F3 G2 b2 k2 (PySem.W.mg_of X G a2) (PySem.W.mg_of X G vN) B.len (PySem.W.mg_none_of X G z_set)
  have G12 : FnOk l.prog w K mg base CX0 4 f12 _ ["self", "words"] (spSInit K C) := ok_sinit F12 T G3 b3 k3 (PySem.W.mg_of X G a3) (PySem.W.mg_none_of X G z_tuple)
  have G13 : FnOk l.prog w K mg base CX0 4 f13 _ ["self", "other"] (spSEqG K C) := ok_seqG F13 T (PySem.W.mg_none_of X G z_isinstance)
  have G14 : FnOk l.prog w K mg base CX0 4 f14 _ ["self"] (spSWords C) := ok_swords F14 T (PySem.W.mg_none_of X G z_list)
  have G6 : FnOk l.prog w K mg base CX0 1 f6 _ ["script", "spot"] (spPool K) := ok_pool F6 B
  have G7 : FnOk l.prog w K mg base CX0 1 f7 _ ["pool", "span"] spDraw := ok_draw F7 B
  have G8 : FnOk l.prog w K mg base CX0 2 f8 _ ["pool", "widest", "signs"] spWord := ok_word F8 B G7 b7 k7 (PySem.W.mg_of X G a7)
  have G9 : FnOk l.prog w K mg base CX0 3 f9 _ ["pool", "many", "widest"] spLot := ok_lot F9 B G7 b7 k7 (PySem.W.mg_of X G a7) G8 b8 k8 (PySem.W.mg_of X G a8)
  have G4 : FnOk l.prog w K mg base CX0 2 f4 _ ["pool"] spKnown := ok_known F4 G7 b7 k7 (PySem.W.mg_of X G a7)
  have G10 : FnG l.prog w K mg base CX0 8 f10 _ ["pool"] spFits := ok_fits F10 BX T O G12 b12 kbi G13 b13 G14 b14 ⟨G7, b7, k7, PySem.W.mg_of X G a7⟩ ⟨G4, b4, k4, PySem.W.mg_of X G a4⟩ ⟨G9, b9, k9, PySem.W.mg_of X G a9⟩
  exact ok_law F11 B ⟨G6, b6, k6, PySem.W.mg_of X G a6⟩ G10 b10 k10 (PySem.W.mg_of X G a10)
theorem walk {l : PySem.W.OpenLaw} {q : Program} {loose : List Str} {XP : (Str → Option Value) → Heap → Prop} {YP : World → Heap → Prop} {d : DefRec} {K : Params → PySem.W.Frag} (hn : l.most = some 63) (hdf : d.params.defaults = [])
    (hY : ∀ (w : World) (h : Heap), YP w h → (K w.params).In h)
    (F : ∀ (w : World) (mg : Str → Option Value) (fa : Addr) (h : Heap), (K w.params).In h → h.Ns mainGlobals mg → mg d.name = some (.ref fa) →
      ∃ fd : FuncData, (∀ (s : Shared) (u : Value), BindsTo s fd ⟨[u], []⟩ [("script", u)]) ∧ ∀ base : Heap, (K w.params).In base → base.Ns mainGlobals mg → FnG l.prog w (K w.params) mg base CX0 9 fa fd ["script"] (spLaw (K w.params))) :
    PySem.W.WalkO q loose XP YP l.row.toRowW d [] (fun f vs => PySem.call f vs) :=
  walk_G (n := 63) (k := 9) (x := "script") (sp := fun w => spLaw (K w.params)) hn (by decide) hdf ⟨rfl, by decide, by decide⟩ hY F (fun _ _ a ns hl _ hS => ⟨a, ns, rfl, hS, hl, fun _ => rfl⟩)
end WH
open PySem PySem.W PyProof.Rows
set_option maxRecDepth 100000 in
set_option maxHeartbeats 0 in
theorem PySem.Challenge.cw_wordhulls_k02_stocks_as_passed_holds : PySem.Challenge.rw_wordhulls_k02_stocks_as_passed.Holds := by
  w_on; o_law; k_head; (case hw => w_witness2)
  k_fill
  refine WH.walk (l := PySem.Challenge.rw_wordhulls_k02_stocks_as_passed) rfl rfl (fun w h Y => PySem.W.kIn_of Y) ?F
  case F =>
    intro w mg fa h KX G hmg
    refine' WH.all_mk KX G hmg ?a1 ?l1 ?c1 ?k1 ?a2 ?l2 ?c2 ?k2 ?a3 ?l3 ?c3 ?k3 ?a6 ?l6 ?c6 ?k6 ?a7 ?l7 ?c7 ?k7 ?a8 ?l8 ?c8 ?k8 ?a9 ?l9 ?c9 ?k9 ?a4 ?l4 ?c4 ?k4 ?a10 ?l10 ?c10 ?k10 ?a11 ?l11 ?c11 ?k11 ?a12 ?i12 ?l12 ?c12 ?k12 ?a13 ?i13 ?l13 ?c13 ?k13 ?l14 ?c14 ?k14 ?vL ?vM ?vN ?z_len ?z_max ?z_min ?z_abs ?z_int ?z_range ?z_all ?z_set ?z_tuple ?z_list ?z_isinstance ?z_repr ?aC ?pg ?hd ?po ?sa ?mk ?kc ?nW ?xC ?ne ?pa ?pget ?ptk ?prc ?ha ?hn ?htk ?hm ?ki ?nfL ?ktL ?nfT ?ktT ?nfS ?ktS ?nfN ?ktN ?nfI ?ktI
    (case aC => k_is)
    (case pa => k_is)
    (case prc => k_is)
    (case a1 => k_is)
    (case l1 => k_is)
    (case c1 => k_is)
    (case k1 => k_is)
    (case a2 => k_is)
    (case l2 => k_is)
    (case c2 => k_is)
    (case k2 => k_is)
    (case a3 => k_is)
    (case l3 => k_is)
    (case c3 => k_is)
    (case k3 => k_is)
    (case a6 => k_is)
    (case l6 => k_is)
    (case c6 => k_is)
    (case k6 => k_is)
    (case a7 => k_is)
    (case l7 => k_is)
    (case c7 => k_is)
    (case k7 => k_is)
    (case a8 => k_is)
    (case l8 => k_is)
    (case c8 => k_is)
    (case k8 => k_is)
    (case a9 => k_is)
    (case l9 => k_is)
    (case c9 => k_is)
    (case k9 => k_is)
    (case a4 => k_is)
    (case l4 => k_is)
    (case c4 => k_is)
    (case k4 => k_is)
    (case a10 => k_is)
    (case l10 => k_is)
    (case c10 => k_is)
    (case k10 => k_is)
    (case a11 => k_is)
    (case l11 => k_is)
    (case c11 => k_is)
    (case k11 => k_is)
    (case a12 => k_is)
    (case i12 => k_is)
    (case l12 => k_is)
    (case c12 => k_is)
    (case k12 => k_is)
    (case a13 => k_is)
    (case i13 => k_is)
    (case l13 => k_is)
    (case c13 => k_is)
    (case k13 => k_is)
    (case l14 => k_is)
    (case c14 => k_is)
    (case k14 => k_is)
    (case vL => k_is)
    (case vM => k_is)
    (case vN => k_is)
    (case z_len => k_is)
    (case z_max => k_is)
    (case z_min => k_is)
    (case z_abs => k_is)
    (case z_int => k_is)
    (case z_range => k_is)
    (case z_all => k_is)
    (case z_set => k_is)
    (case z_tuple => k_is)
    (case z_list => k_is)
    (case z_isinstance => k_is)
    (case z_repr => k_is)
    (case pg => k_is)
    (case hd => k_is)
    (case po => k_is)
    (case sa => k_is)
    (case mk => k_is)
    (case kc => k_is)
    (case nW => k_is)
    (case xC => k_is)
    (case ne => k_is)
    (case pget => k_is)
    (case ptk => k_is)
    (case ha => k_is)
    (case hn => k_is)
    (case htk => k_is)
    (case hm => k_is)
    (case ki => first | rfl | k_is)
    (case nfL => first | rfl | k_is)
    (case ktL => first | rfl | k_is)
    (case nfT => first | rfl | k_is)
    (case ktT => first | rfl | k_is)
    (case nfS => first | rfl | k_is)
    (case ktS => first | rfl | k_is)
    (case nfN => first | rfl | k_is)
    (case ktN => first | rfl | k_is)
    (case nfI => first | rfl | k_is)
    (case ktI => first | rfl | k_is)
