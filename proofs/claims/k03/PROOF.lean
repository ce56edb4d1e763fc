import PyProof.Rows.All
import Wide.All
import OpenK.AllK
import Wide.FinOn
import PySem.Challenge.RW_wordhulls_k03_errors_of_stocks
import HandS.ForMost
import HandS.Exc
import HandS.TryOnly
import HandS.ExcOwn
import HandS.WordsExc
import HandS.OwnEq
import HandS.Property
import HandS.MakeKw
import HandS.IsInst
import HandS.SetKeys
import HandS.ExcInit
import HandS.Wide
import HandS.Walk
import HandS.Steps
import PyProof.InstNe
import PyProof.ReprLen
import HandS.ExcField
import HandS.ExcIs
import HandS.HotCalls
import HandS.MakeKwOnly
import HandS.More
set_option Elab.async false
set_option linter.all false
set_option maxRecDepth 100000
namespace WH
open PySem PySem.Spec PyProof.Rows L2
/-! a power of an int of less than a hundred thousand bits -/
def CPowW (i j : Int) : Prop := 0 ≤ j ∧ j ≤ 100 ∧ i.natAbs.log2 < 1000000
theorem CPowW.ok {i j : Int} (h : CPowW i j) : (Builtin.Int.intBits i : Int) * j ≤ 2 ^ 27 := by
  obtain ⟨h1, h2, h3⟩ := h
  have b : Builtin.Int.intBits i ≤ i.natAbs.log2 + 1 := by
    unfold Builtin.Int.intBits
    split <;> omega
  have e : (2 : Int) ^ 27 = 134217728 := by decide
  rw [e]
  have b2 : (Builtin.Int.intBits i : Int) ≤ 1000000 := by omega
  have := Int.mul_le_mul b2 h2 h1 (by decide)
  omega
theorem op_powW {X : Cx} : OpR X (binaryOp .Pow) (rI CPowW fun i j => .int (i ^ j.toNat)) := opI fun _ _ _ _ _ _ _ hc q => pow_int hc.1 hc.ok q
theorem log2_small {i : Int} {n : Nat} (h0 : 0 ≤ i) (h : i < 2 ^ n) (hn : n ≤ 1000000) (hp : 0 < n) : i.natAbs.log2 < 1000000 := by
  have : i.natAbs < 2 ^ n := by
    have e : ((2 ^ n : Nat) : Int) = (2 : Int) ^ n := by simp
    omega
  exact Nat.lt_of_lt_of_le (PySem.Flt.log2_lt_of hp this) hn
end WH
namespace WH
open PySem PySem.Spec PyProof.Rows L2
abbrev Sl := List (Option V)
theorem same_upd {H : Hp} {p : Addr} {o : HO} (h : H p = none) : Same H (upd H p o) := fun b x e => by
  rw [upd_ne (ne_of_none e h)]
  exact e
theorem same_set {H H1 : Hp} {p : Addr} {o : HO} (s : Same H H1) (h : H p = none) : Same H (upd H1 p o) := fun b x e => by
  rw [upd_ne (ne_of_none e h)]
  exact s b x e
/-- what a comprehension gives: f i (none: left out) for the turns ahead of i -/
def fmr (f : Nat → Option V) (i : Nat) : List V := (List.range i).filterMap f
theorem fmr_succ (f : Nat → Option V) (i : Nat) : fmr f (i + 1) = fmr f i ++ (f i).toList := by
  unfold fmr
  rw [List.range_succ, List.filterMap_append]
  cases h : f i <;> simp [h]
theorem fmr_len (f : Nat → Option V) (i : Nat) : (fmr f i).length ≤ i := by
  unfold fmr
  exact Nat.le_trans (List.length_filterMap_le _ _) (by rw [List.length_range]; exact Nat.le_refl _)
/-- a comprehension whose turns change nothing that stood -/
theorem lc_fm {J : It} {n : Nat} {G : Hp → Prop} {Y : Nat → Hp → V → Hp → Prop} (w : Walk J n G Y) {g : TG} {tt : TT} {te : TE} {vs : List Nat} {σ : Sl} {H1 : Hp} {D : Addr} {Qd : Hp → Prop}
    (f : Nat → Option V) (hn : n < sizeLine) (hD : H1 D = none) (hG : ∀ H, Same H1 H → G H)
    (hs : ∀ i x H H' (N : Option V → Hp → Prop), i < n → Same H1 H → Y i H x H' → (∀ H4, Same H H4 → N (f i) H4) → g x (wipe σ vs) H' fun σ2 H2 => wipe σ2 vs = wipe σ vs ∧ tt σ2 H2 fun b H3 =>
      if b = true then te σ2 H3 fun y H4 => N (some y) H4 else N none H3)
    (hd : ∀ H, Same H1 H → H D = some (.lst (fmr f n)) → Qd H) :
    ∃ W : Nat → Nat → Hp → Prop, (∃ m, W 0 m (upd H1 D (.lst []))) ∧ ∀ i m H, W i m H →
      (J.stop i H ∧ Qd H) ∨ (J.go i H ∧ ∃ Nx : Hp → Prop, (∀ H', Nx H' → ∃ m', m' < m ∧ W (i + 1) m' H') ∧ ∀ x H', J.yld i H x H' → g x (wipe σ vs) H' fun σ2 H2 => wipe σ2 vs = wipe σ vs ∧ tt σ2 H2 fun b H3 =>
        if b = true then te σ2 H3 fun y H4 => ∃ acc, H4 D = some (.lst acc) ∧ acc.length < sizeLine ∧ Nx (upd H4 D (.lst (acc ++ [y]))) else Nx H3) := by
  refine lc_it w (fun i H => Same H1 H ∧ H D = some (.lst (fmr f i))) ⟨same_upd hD, upd_same⟩ (fun i H _ p => hG H p.1) ?_ (fun H p => hd H p.1 p.2)
  rintro i x H H' hi ⟨s, hd'⟩ hy
  refine hs i x H H' (fun o H4 => match o with
    | some y => ∃ acc, H4 D = some (.lst acc) ∧ acc.length < sizeLine ∧ (Same H1 (upd H4 D (.lst (acc ++ [y]))) ∧ (upd H4 D (.lst (acc ++ [y]))) D = some (.lst (fmr f (i + 1))))
    | none => Same H1 H4 ∧ H4 D = some (.lst (fmr f (i + 1)))) hi s hy fun H4 s4 => ?_
  rw [fmr_succ]
  cases f i with
  | none => exact ⟨s.trans s4, by rw [s4 _ _ hd']; simp⟩
  | some y => exact ⟨_, s4 _ _ hd', Nat.lt_of_le_of_lt (fmr_len f i) (by omega), same_set (s.trans s4) hD, upd_same⟩
/-- all turns keep: the list by a map -/
theorem fmr_map (f : Nat → V) (n : Nat) : fmr (fun i => some (f i)) n = (List.range n).map f := by
  unfold fmr
  rw [← List.filterMap_eq_map]
  rfl
theorem range_map_getD (xs : List V) (F : V → V) : (List.range xs.length).map (fun i => F (xs.getD i .non)) = xs.map F := by
  apply List.ext_getElem
  · simp
  · intro i h1 h2
    simp at h1 h2
    simp [List.getD, h2]
theorem fmr_list (xs : List V) (F : V → Option V) : fmr (fun i => F (xs.getD i .non)) xs.length = xs.filterMap F := by
  unfold fmr
  have : (List.range xs.length).map (fun i => xs.getD i .non) = xs := by
    have := range_map_getD xs (fun v => v)
    simpa using this
  calc (List.range xs.length).filterMap (fun i => F (xs.getD i .non)) = ((List.range xs.length).map (fun i => xs.getD i .non)).filterMap F := by rw [List.filterMap_map]; rfl
    _ = xs.filterMap F := by rw [this]
theorem yesT {σ : Sl} {H : Hp} {A B : Hp → Prop} (h : A H) : tYes σ H (fun b H3 => if b = true then A H3 else B H3) := by
  show (if true = true then A H else B H)
  rw [if_pos rfl]
  exact h
/-- between two statements: what the first one leaves -/
theorem seq_mid {t1 t2 : TS} {D : Ends} {σ : Sl} {H : Hp} (R : Sl → Hp → Prop) (h1 : ∀ N : Sl → Hp → Prop, (∀ σ' H', R σ' H' → N σ' H') → t1 { D with nx := N } σ H) (h2 : ∀ σ' H', R σ' H' → t2 D σ' H') : tSeq t1 t2 D σ H := h1 _ h2
/-! ### the letters -/
def LET : Str := "abcdefghijklmnopqrstuvwxyz"
def isL (z : Str) : Bool := z.cps.toList.all fun c => decide (c ∈ LET.cps.toList)
def isW (z : Str) : Bool := decide (1 ≤ z.length) && decide (z.length ≤ 8) && isL z
theorem getD_at {z : Str} {i c : Nat} (hi : i < z.cps.size) (hc : z.cps[i]? = some c) : z.cps.getD i 0 = c := by
  simp [Array.getD, hi, Array.getElem?_eq_getElem hi] at hc ⊢
  exact hc
theorem fmr_isL (z : Str) : (fmr (fun i => some (.bl (decide (z.cps.getD i 0 ∈ LET.cps.toList)))) z.cps.size) = (z.cps.toList.map fun c => decide (c ∈ LET.cps.toList)).map V.bl := by
  rw [fmr_map]
  apply List.ext_getElem
  · simp
  · intro i h1 h2
    simp at h1 h2
    simp [Array.getD, h2]
theorem all_isL (z : Str) : (z.cps.toList.map fun c => decide (c ∈ LET.cps.toList)).all id = isL z := by
  unfold isL
  rw [List.all_map]
  rfl
end WH
set_option maxHeartbeats 2000000
namespace WH
open PySem PySem.Spec PyProof.Rows L2 PySem.W PySem.Calls
/-- what the written part says of a class with an own == and without an own != -/
structure EqCls (K : PySem.W.Frag) (C f : Addr) : Prop where
  cls : ∃ nm q N bs sn sub ab col dd k0 k1 k2 k3 k5, K.lookup C = some (excClassObj nm q C N bs [.type "object"] true sn sub ab col dd k0 k1 k2 k3 k5 "object.__new__")
  eq : findIn K (.ref C) "__eq__" = some (some (.ref f))
  ne : findIn K (.ref C) "__ne__" = some (some (.builtin "object.__ne__"))
  fn : isFn K (.ref f) = true
section
variable {prog : Program} {w : World} {A : Around} {E : Value → Shared → Prop} {K : PySem.W.Frag} {C x f L : Addr} {b tb : Value} {h₀ : Heap} {s : Shared} {m : Str → Option Value} {ox : Obj} {od : Option Obj}
theorem ifBoundB_K {M : Model} {name : Str} {id : String} {args : List Value} {Q : Option Value → Shared → Prop} (X : K.In s.heap) (I : InstAt s.heap x ox C od) (hs : findIn K (.ref C) name = some (some (.builtin id))) {B : String} (S : Slot B name id)
    (h : wpAny M A (call (.builtin id) (.ref x :: args)) (fun v => Q (some v)) E s) : wpAny M A (callSpecialIfBound? (.ref x) name args) Q E s := by
  simp only [callSpecialIfBound?, bindSpecialIfBound?]
  refine wpAny_holding (wpAny_bind (wpAny_bind (wpAny_bind (I.type.here ((looks_findIn X hs).here ?_)))))
  simp only [S.bind]
  refine wpAny_bind (wpAny_askSetting (wpAny_ite ?_))
  have fin : wpAny M A (call (.builtin id) ([.ref x] ++ args) >>= fun v => pure (some v)) Q E s := wpAny_bind (wpAny_mono h (fun v s' h' => wpAny_pure h') fun _ _ h' => h')
  split
  · exact wpAny_bind (wpAny_pure (wpAny_pure fin))
  · exact wpAny_tryCatch (wpAny_bind (wpAny_pure (wpAny_pure fin)))
theorem objNe_K {Q : Fin → Shared → Prop} (X : K.In s.heap) (I : InstAt s.heap x ox C od) (T : EqCls K C f) (hu : A.units < cLine)
    (h : wpAny (model prog w) A (call (.ref f) [.ref x, b]) (fun v s' => ∃ r, v = .bool r ∧ Q (.done (.ret (.bool (!r)))) s') E s) :
    wpAny (model prog w) A (Builtin.«object.__ne__» ⟨[.ref x, b], []⟩) Q E s := by
  unfold Builtin.«object.__ne__»
  repeat (first
    | with_reducible refine wpAny_cRoomFor hu ?_
    | (refine wpAny_bind (m := callSpecialIfBound? (.ref x) (Str.ofString "__eq__") [b])
        (ifBound_K X I T.eq T.fn (wpAny_mono h (fun r s' hr => by
          obtain ⟨r, rfl, hq⟩ := hr
          repeat (first | exact hq | exact wpAny_pure hq | exact wpAny_truthy_bool hq | (refine wpAny_bind (m := truthy (.bool _)) (wpAny_truthy_bool ?_)) | wp_step)) fun _ _ e => e)))
    | wp_step)
theorem ne_K {Q : Value → Shared → Prop} (hu : A.units + 1 < cLine) (X : K.In s.heap) (I : InstAt s.heap x ox C od) (hb : Looks (model prog w) s.heap (typeOf b) tb) (hn : notFirst K C tb = true) (T : EqCls K C f)
    (h : wpAny (model prog w) A.in1 (call (.ref f) [.ref x, b]) (fun v s' => ∃ r, v = .bool r ∧ Q (.bool (!r)) s') E s) : wpAny (model prog w) A (richCompare .NotEq (.ref x) b) Q E s := by
  obtain ⟨nm, q, N, bs, sn, sub, ab, col, dd, k0, k1, k2, k3, k5, hC⟩ := T.cls
  have one : wpAny (model prog w) A (tryCompare (.ref x) "__ne__" b) (fun r s' => ∃ v, r = some v ∧ Q v s') E s := by
    unfold tryCompare
    refine wpAny_bind (ifBoundB_K X I T.ne F.cmp_object.ne (wpAny_call (codeAny_call_builtin F.cmp_object.ne.plain F.cmpEntry_ne
      (wpAny_check_slot_inst F.cmpKind_ne F.cmpSplit_ne (F.cmpArgs_ne _ _) F.cmp_object.hasObject I.at_ I.cls (X _ _ hC)
        (objNe_K (A := A.in1) X I T hu (wpAny_mono h (fun v s' hv => ?_) fun _ _ e => e))))))
    obtain ⟨r, rfl, hq⟩ := hv
    first | exact ⟨r, rfl, wpAny_pure ⟨_, rfl, hq⟩⟩ | exact ⟨r, rfl, wpAny_pure (wpAny_pure ⟨_, rfl, hq⟩)⟩ 
  unfold richCompare
  simp only [oneThing_ref]
  refine wpAny_holding (wpAny_bind (wpAny_cRoomFor (Nat.lt_of_succ_lt hu) ?_))
  refine wpAny_bind (I.type.here (wpAny_bind (hb.here ?_)))
  split
  · rename_i q
    have e : subIn K tb (.ref C) = some false := by
      rcases Bool.or_eq_true_iff.mp hn with e | e
      · rw [beq_iff_eq.mp e] at q; simp at q
      · exact beq_iff_eq.mp e
    refine wpAny_bind ((looks_subIn X e).here ?_)
    simp only [Bool.false_eq_true, if_false]
    refine wpAny_bind (wpAny_mono one (fun r s' z => ?_) fun _ _ e => e)
    obtain ⟨v, rfl, hq⟩ := z
    exact wpAny_pure hq
  · refine wpAny_bind (wpAny_pure ?_)
    simp only [Bool.false_eq_true, if_false]
    refine wpAny_bind (wpAny_mono one (fun r s' z => ?_) fun _ _ e => e)
    obtain ⟨v, rfl, hq⟩ := z
    exact wpAny_pure hq
end
/-! own == and != with either answer, by the promise of __eq__ -/
def rOwn (K : PySem.W.Frag) (C : Addr) (sp : Sp) (E : XK) (neg : Bool) : R2 := fun x y H Q => ∃ a dx fs t, x = .ref a ∧ H a = some (.ins C dx fs) ∧ TyX K H y t ∧ notFirst K C t = true ∧
  sp [x, y] H (fun v H' => ∃ r, v = .bl r ∧ Q (.bl (if neg = true then !r else r)) H') E
section
variable {X : Cx} {n : Nat} {CX : CXT} {C f : Addr} {fd : FuncData} {ps : List Str} {sp : Sp} {E : XK}
theorem own_call (F : FnOk X.prog X.w X.K X.mg X.base CX n f fd ps sp) (hb : Binds X.K fd ps []) (hx : Passes CX X E) {A : Around} (sb : Sub X n A) {pins : List (Addr × Obj)} {σ : Sl} {H : Hp} {s : Shared} {x y : V} {u v : Value} {Q : VK}
    (I : Inv X pins σ H s) (rx : RelV x u) (ry : RelV y v) (h : sp [x, y] H Q E) : wpAny (model X.prog X.w) A (PySem.call (.ref f) [u, v]) (EP X pins σ Q) X.xe s := by
  have e0 : Env0 X.prog X.w X.K X.mg X.base A X.stack s H := by
    have e := I.env0
    exact ⟨by rw [sb.fr]; exact e.frames, e.mod, e.bs, e.bsz, e.funs, e.frf, e.hok, e.bare⟩
  have hl := F.len _ _ _ _ h
  have r2 : Vals [x, y] [u, v] := .cons rx (.cons ry .nil)
  refine wpAny_call (codeAny_mono (F.run A X.stack s H ⟨[u, v], []⟩ [u, v] [x, y] _ E sb.room e0 (by
    have := hb s [u, v] I.kIn (by simpa using hl)
    simpa using this) r2 h) fun r s' hq => ?_)
  cases r with
  | error e => exact hx pins σ H s e s' I hq
  | ok fl =>
    cases fl with
    | ret w => exact I.after hq
    | next => exact False.elim hq
    | brk => exact False.elim hq
    | cont => exact False.elim hq
theorem op_eqOwn (T : EqCls X.K C f) (F : FnOk X.prog X.w X.K X.mg X.base CX n f fd ps sp) (hb : Binds X.K fd ps []) (hx : Passes CX X E) (hr : Room n X.A) : OpR X (compareOp .Eq) (rOwn X.K C sp E false) := by
  intro pins s σ H x y v u Q I rx ry hq
  obtain ⟨a, dx, fs, t, rfl, ha, ty, hn, q⟩ := hq
  cases rx
  obtain ⟨mA, J, _⟩ := ins_get I.hok ha
  obtain ⟨od, J, _⟩ := J.look
  obtain ⟨m, hF⟩ := I.fr
  obtain ⟨Pk, kx, hp, _⟩ := kit_of I ry ty
  show wpAny (model X.prog X.w) X.A (richCompare .Eq _ u) (EP X pins σ Q) X.xe s
  refine PySem.W.cmp_K (op := .Eq) (tb := t) hr.units0 hF I.ok.mod.kin J (kx.ty _ _ I.kIn hp) hn T.eq T.fn ?_
  refine wpAny_mono (own_call (x := .ref a) F hb hx ⟨hr, rfl⟩ I (show RelV (.ref a) (.ref a) from rfl) ry q) (fun r s' z => ?_) fun _ _ x => x
  obtain ⟨z, H', I', rz, b, rfl, ez⟩ := z
  cases rz
  exact ⟨.bl b, H', I', rfl, ez⟩
theorem op_neOwn (T : EqCls X.K C f) (F : FnOk X.prog X.w X.K X.mg X.base CX n f fd ps sp) (hb : Binds X.K fd ps []) (hx : Passes CX X E) (hr : Room (n + 1) X.A) : OpR X (compareOp .NotEq) (rOwn X.K C sp E true) := by
  intro pins s σ H x y v u Q I rx ry hq
  obtain ⟨a, dx, fs, t, rfl, ha, ty, hn, q⟩ := hq
  cases rx
  obtain ⟨mA, J, _⟩ := ins_get I.hok ha
  obtain ⟨od, J, _⟩ := J.look
  obtain ⟨Pk, kx, hp, _⟩ := kit_of I ry ty
  show wpAny (model X.prog X.w) X.A (richCompare .NotEq _ u) (EP X pins σ Q) X.xe s
  refine ne_K (hu_of (k := n + 1) hr) I.kIn J (kx.ty _ _ I.kIn hp) hn T ?_
  refine wpAny_mono (own_call (x := .ref a) F hb hx (Sub.in1 ⟨hr, rfl⟩) I (show RelV (.ref a) (.ref a) from rfl) ry q) (fun r s' z => ?_) fun _ _ x => x
  obtain ⟨z, H', I', rz, b, rfl, ez⟩ := z
  cases rz
  exact ⟨b, rfl, .bl (!b), H', I', rfl, ez⟩
end
end WH
namespace WH
open PySem PySem.Spec PyProof.Rows L2
/-! texts in lists and tuples, as data -/
def dStrs (ws : List Str) : List PyData := ws.map PyData.str
theorem eqvAll_strs : ∀ a b : List Str, PyData.eqvAll (dStrs a) (dStrs b) = decide (a = b)
  | [], [] => by simp [dStrs, PyData.eqvAll]
  | [], _ :: _ => by simp [dStrs, PyData.eqvAll]
  | _ :: _, [] => by simp [dStrs, PyData.eqvAll]
  | x :: a, y :: b => by
    have ih := eqvAll_strs a b
    unfold dStrs at ih ⊢
    rw [List.map_cons, List.map_cons]
    simp only [PyData.eqvAll, PyData.eqv, ih]
    by_cases h : x = y <;> by_cases h2 : a = b <;> simp [h, h2]
def SOk (a : List Str) : Prop := ∀ x ∈ a, PyData.strOk x = true
theorem canLay_strs : ∀ a : List Str, SOk a → PyData.canLayAll0 (dStrs a) = true
  | [], _ => by simp [dStrs, PyData.canLayAll0]
  | x :: a, h => by
    have ih := canLay_strs a fun y hy => h y (List.mem_cons_of_mem _ hy)
    unfold dStrs at ih ⊢
    rw [List.map_cons]
    simp only [PyData.canLayAll0, PyData.canLay0, ih, h x List.mem_cons_self, Bool.and_self]
theorem depth_strs : ∀ a : List Str, PyData.depthAll (dStrs a) ≤ 1
  | [] => by simp [dStrs, PyData.depthAll]
  | x :: a => by
    have ih := depth_strs a
    unfold dStrs at ih ⊢
    rw [List.map_cons]
    simp only [PyData.depthAll, PyData.depth]
    omega
theorem dpAll_strs {K : PySem.W.Frag} {H : Hp} : ∀ a : List Str, DpAll K H (a.map V.str) (dStrs a)
  | [] => .nil
  | x :: a => .cons (.str x) (dpAll_strs a)
theorem dp_lst {K : PySem.W.Frag} {H : Hp} {a : Addr} {ws : List Str} (h : SqL K H a (ws.map V.str)) : Dp K H (.ref a) (.list (dStrs ws)) := .lst h (dpAll_strs ws)
theorem dp_tup {K : PySem.W.Frag} {H : Hp} {a : Addr} {ws : List Str} (h : SqT K H a (ws.map V.str)) : Dp K H (.ref a) (.tuple (dStrs ws)) := .tup h (dpAll_strs ws)
theorem sh_lst {ws : List Str} (h : SOk ws) : SeqAt.shaped (.list (dStrs ws)) = true := by
  unfold SeqAt.shaped
  have := depth_strs ws
  simp only [PyData.canLay0, canLay_strs ws h, PyData.depth, Bool.true_and]
  exact decide_eq_true (by omega)
theorem sh_tup {ws : List Str} (h : SOk ws) : SeqAt.shaped (.tuple (dStrs ws)) = true := by
  unfold SeqAt.shaped
  have := depth_strs ws
  simp only [PyData.canLay0, canLay_strs ws h, PyData.depth, Bool.true_and]
  exact decide_eq_true (by omega)
theorem eqv_lst (a b : List Str) : PyData.eqv (.list (dStrs a)) (.list (dStrs b)) = decide (a = b) := by
  simp only [PyData.eqv]
  exact eqvAll_strs a b
theorem eqv_tup (a b : List Str) : PyData.eqv (.tuple (dStrs a)) (.tuple (dStrs b)) = decide (a = b) := by
  simp only [PyData.eqv]
  exact eqvAll_strs a b
theorem let_small : ∀ c ∈ LET.cps.toList, c < 123 := by decide +kernel
theorem sok_isL {x : Str} (h : isL x = true) : PyData.strOk x = true := by
  unfold PyData.strOk
  unfold isL at h
  rw [← Array.all_toList]
  rw [List.all_eq_true] at h ⊢
  intro c hc
  have h1 := let_small c (of_decide_eq_true (h c hc))
  exact decide_eq_true (by omega)
theorem sok_isW {x : Str} (h : isW x = true) : PyData.strOk x = true := by
  unfold isW at h
  simp only [Bool.and_eq_true] at h
  exact sok_isL h.2
/-! lists of lists of texts -/
def dLol (l : List (List Str)) : List PyData := l.map fun ws => PyData.list (dStrs ws)
theorem eqvAll_lol : ∀ a b : List (List Str), PyData.eqvAll (dLol a) (dLol b) = decide (a = b)
  | [], [] => by simp [dLol, PyData.eqvAll]
  | [], _ :: _ => by simp [dLol, PyData.eqvAll]
  | _ :: _, [] => by simp [dLol, PyData.eqvAll]
  | x :: a, y :: b => by
    have ih := eqvAll_lol a b
    unfold dLol at ih ⊢
    rw [List.map_cons, List.map_cons]
    simp only [PyData.eqvAll, eqv_lst, ih]
    by_cases h : x = y <;> by_cases h2 : a = b <;> simp [h, h2]
theorem canLay_lol : ∀ a : List (List Str), (∀ x ∈ a, SOk x) → PyData.canLayAll0 (dLol a) = true
  | [], _ => by simp [dLol, PyData.canLayAll0]
  | x :: a, h => by
    have ih := canLay_lol a fun y hy => h y (List.mem_cons_of_mem _ hy)
    unfold dLol at ih ⊢
    rw [List.map_cons]
    simp only [PyData.canLayAll0, PyData.canLay0, canLay_strs x (h x List.mem_cons_self), ih, Bool.and_self]
theorem depth_lol : ∀ a : List (List Str), PyData.depthAll (dLol a) ≤ 3
  | [] => by simp [dLol, PyData.depthAll]
  | x :: a => by
    have ih := depth_lol a
    have h2 := depth_strs x
    unfold dLol at ih ⊢
    rw [List.map_cons]
    simp only [PyData.depthAll, PyData.depth]
    omega
theorem sh_lol {l : List (List Str)} (h : ∀ x ∈ l, SOk x) : SeqAt.shaped (.list (dLol l)) = true := by
  unfold SeqAt.shaped
  have := depth_lol l
  simp only [PyData.canLay0, canLay_lol l h, PyData.depth, Bool.true_and]
  exact decide_eq_true (by omega)
theorem eqv_lol (a b : List (List Str)) : PyData.eqv (.list (dLol a)) (.list (dLol b)) = decide (a = b) := by
  simp only [PyData.eqv]
  exact eqvAll_lol a b
/-! in -/
theorem inV_strs (x : Str) (ws : List Str) : inV (.str x) (ws.map V.str) = decide (x ∈ ws) := by
  unfold inV
  rw [List.any_map]
  induction ws with
  | nil => simp
  | cons y r ih =>
    rw [List.any_cons, ih]
    have e : ((fun y => eqV y (V.str x)) ∘ V.str) y = decide (y = x) := by
      show eqV (V.str y) (V.str x) = _
      simp only [eqV]
      by_cases h : y = x <;> simp [h]
    rw [e]
    by_cases h : y = x <;> by_cases h2 : x ∈ r <;> simp [h, h2, eq_comm]
    all_goals (first | exact fun z => h z.symm | skip)
theorem flat_strs (ws : List Str) : (ws.map V.str).all flatV = true := by
  rw [List.all_map, List.all_eq_true]
  intro x _
  rfl
def fSel (q : Str → Bool) : V → Option V
  | .str z => if q z = true then some (.str z) else none
  | _ => none
theorem fSel_yes {q : Str → Bool} {z : Str} (h : q z = true) : fSel q (.str z) = some (.str z) := if_pos h
theorem fSel_no {q : Str → Bool} {z : Str} (h : q z = false) : fSel q (.str z) = none := if_neg (by simp [h])
theorem fmap_filter (ws : List Str) (q : Str → Bool) : (ws.map V.str).filterMap (fSel q) = (ws.filter q).map V.str := by
  induction ws with
  | nil => rfl
  | cons y r ih =>
    rw [List.map_cons, List.filterMap_cons]
    by_cases h : q y = true
    · simp [h, ih, fSel]
    · simp [h, ih, fSel]
section
variable {X : Cx} {CX : CXT} {k : Nat} {f : Addr} {fd : FuncData} {ps ks : List Str} {sp : Sp} {E : XK} {x : Str} {p pos : Pos} {kws : List Keyword} {tk : TA} {g : List Value → List Value → List Value} {gV : List V → List V → List V}
/-- f(k = v, ..) -/
theorem pe_callK0 (F : FnOk X.prog X.w X.K X.mg X.base CX k f fd ps sp) (hr : Room k X.A) (hg : Gl X x) (hm : X.mg x = some (.ref f)) (hk : PySem.W.keepIn X.K (.ref f) = true) (hb : KBinds X.K fd ps ks g gV) (hx : Passes CX X E)
    (hkw : PK X kws tk) (hall : (backToKw pos (keywordEach kws X.env)).all (·.1.isSome) = true := by rfl) (hks : (backToKw pos (keywordEach kws X.env)).filterMap (·.1) = ks := by rfl)
    (hdb : (x == ("__debug__" : Str)) = false := by decide) 
    (hpl : ((backTo pos (starEach [] X.env)).any (·.1) || (backToKw pos (keywordEach kws X.env)).any (·.1.isNone)) = false := by rfl) :
    PE X (.Call (.Name x p) [] kws pos) (tCallK sp gV E tNil tk) := by
  refine ⟨fun pins s σ H Q I h => ?_⟩
  refine wpAny_Call_Name_kw (ld_glob I hg hm ?_ hdb)
  refine PySem.W.callWith_KW0 (h₀ := X.base) I.ok.mod.kin hk hall ?_ hpl
  refine thn (hkw.run pos pins s σ H _ I h) fun ws s2 ⟨zs, H2, I2, rz, q2⟩ => ⟨I2.kIn, ?_⟩
  rw [hks]
  exact run_fnk (us := []) (vs := []) F hr hb hx I2 .nil rz q2
end
/-- how keywords bind -/
theorem kbinds_of {K : PySem.W.Frag} {x qual : Str} {st : Stmt} {f : Addr} {fd : FuncData} {ps ks : List Str} (F : Fun K x qual st f fd) (g : List Value → List Value → List Value) (gV : List V → List V → List V)
    (hrel : ∀ {vs : List V} {us : List Value} {zs : List V} {ws : List Value}, Vals vs us → Vals zs ws → Vals (gV vs zs) (g us ws))
    (h : ∀ (kV doc pm : Value) (an : Option Addr) (cdv ct : Value) (us ws : List Value), (g us ws).length = ps.length → bindArgs (PySem.W.fnOf x qual (defArgs st) (defBody st) (defScope st) .none kV doc pm an cdv ct) ⟨us, ks.zip ws⟩ = pure (ps.zip (g us ws))) : KBinds K fd ps ks g gV := by
  obtain ⟨oc, od, kV, doc, pm, an, cdv, ct, osl, rfl, lk, hcd⟩ := F.ex
  exact ⟨fun s us ws _ hl => .of_eq (h kV doc pm an cdv ct us ws hl), hrel⟩
/-- C(k = v): how it binds behind the instance -/
theorem kbn_words {K : PySem.W.Frag} {x qual : Str} {st : Stmt} {f : Addr} {fd : FuncData} {ps ks : List Str} (F : Fun K x qual st f fd)
    (h : ∀ (kV doc pm : Value) (an : Option Addr) (cdv ct : Value) (us ws : List Value), us.length = 1 → ws.length = ks.length → bindArgs (PySem.W.fnOf x qual (defArgs st) (defBody st) (defScope st) .none kV doc pm an cdv ct) ⟨us, ks.zip ws⟩ = pure (ps.zip (us ++ ws))) :
    KBn K fd ps 1 ks (fun us ws => us ++ ws) (fun us ws => us ++ ws) := by
  obtain ⟨oc, od, kV, doc, pm, an, cdv, ct, osl, rfl, lk, hcd⟩ := F.ex
  exact ⟨fun s us ws _ l1 l2 => .of_eq (h kV doc pm an cdv ct us ws l1 l2), fun r1 r2 => r1.append r2⟩
/-- two keywords, the second one first -/
def gTurn {α : Type} : List α → List α → List α
  | [], [a, b] => [b, a]
  | _, _ => []
theorem gTurn_rel {vs : List V} {us : List Value} {zs : List V} {ws : List Value} (h1 : Vals vs us) (h2 : Vals zs ws) : Vals (gTurn vs zs) (gTurn us ws) := by
  cases h1 with
  | nil =>
    cases h2 with
    | nil => exact .nil
    | cons a h2 =>
      cases h2 with
      | nil => exact .nil
      | cons b h2 =>
        cases h2 with
        | nil => exact .cons b (.cons a .nil)
        | cons c h2 => exact .nil
  | cons a h1 =>
    exact .nil
/-! texts run together -/
def catS (ys : List Str) : Str := ⟨((ys.map fun y => y.cps.toList).flatten).toArray⟩
theorem catS_list (ys : List Str) : (catS ys).cps.toList = (ys.map fun y => y.cps.toList).flatten := rfl
theorem glue_fold (e : Array Nat) (he : e = #[]) : ∀ (ps : List Str) (a : Array Nat), (ps.foldl (fun acc p => acc ++ e ++ p.cps) a).toList = a.toList ++ (ps.map fun y => y.cps.toList).flatten
  | [], a => by simp
  | p :: ps, a => by
    rw [List.foldl_cons, glue_fold e he ps]
    subst he
    simp
theorem join_cat {sep : Str} (hs : sep.cps = #[]) (ys : List Str) : Txt.join sep ys = catS ys := by
  apply ext_toList
  rw [catS_list]
  unfold Txt.join Builtin.Str.glued
  show ((ys.drop 1).foldl (fun acc p => acc ++ sep.cps ++ p.cps) (ys.headD Str.empty).cps).toList = _
  rw [glue_fold _ hs]
  cases ys with
  | nil => rfl
  | cons y r => simp
theorem catS_len (ys : List Str) : (catS ys).length = (ys.map (·.length)).sum := by
  show (catS ys).cps.size = _
  rw [← Array.length_toList, catS_list, List.length_flatten, List.map_map]
  rfl
theorem sum_ones (us : List Str) (h : ∀ u ∈ us, ∃ c, u = ⟨#[c]⟩) : (us.map (·.length)).sum = us.length := by
  induction us with
  | nil => rfl
  | cons u r ih =>
    obtain ⟨c, hc⟩ := h u List.mem_cons_self
    rw [List.map_cons, List.sum_cons, ih fun v hv => h v (List.mem_cons_of_mem _ hv), hc, List.length_cons]
    show 1 + r.length = r.length + 1
    omega
/-! cuts of texts -/
theorem cut_hi (z : Str) {c : Int} (h : 0 ≤ c) : (cutS z none (some c)).cps.toList = z.cps.toList.take c.toNat := by
  have e : c = (c.toNat : Int) := by omega
  unfold cutS
  rw [e, HT.sIx_nat, HT.sIx_none]
  show (z.cps.toList.drop 0).take (min c.toNat z.length - 0) = _
  rw [List.drop_zero, Nat.sub_zero]
  have : z.length = z.cps.toList.length := by simp [Str.length]
  rw [this, ← List.take_eq_take_min]
  rfl
theorem cut_lo (z : Str) {c : Int} (h : 0 ≤ c) : (cutS z (some c) none).cps.toList = z.cps.toList.drop c.toNat := by
  have e : c = (c.toNat : Int) := by omega
  unfold cutS
  rw [e, HT.sIx_nat, HT.sIx_none]
  have hz : z.length = z.cps.toList.length := by simp [Str.length]
  show (z.cps.toList.drop (min c.toNat z.length)).take (z.length - min c.toNat z.length) = z.cps.toList.drop c.toNat
  by_cases hc : c.toNat ≤ z.length
  · rw [Nat.min_eq_left hc, hz, List.take_of_length_le (by rw [List.length_drop]; omega)]
  · rw [Nat.min_eq_right (by omega), hz, List.drop_of_length_le (Nat.le_refl _), List.drop_of_length_le (by omega)]
    simp
theorem len_list (z : Str) : z.length = z.cps.toList.length := by simp [Str.length]
theorem isL_iff {z : Str} : isL z = true ↔ ∀ c ∈ z.cps.toList, c ∈ LET.cps.toList := by
  unfold isL
  rw [List.all_eq_true]
  exact ⟨fun h c hc => of_decide_eq_true (h c hc), fun h c hc => decide_eq_true (h c hc)⟩
theorem isL_app {a b : Str} (h1 : isL a = true) (h2 : isL b = true) : isL (a ++ b) = true := by
  rw [isL_iff] at h1 h2 ⊢
  intro c hc
  rw [Str.cps_append, Array.toList_append] at hc
  rcases List.mem_append.mp hc with h | h
  · exact h1 c h
  · exact h2 c h
theorem isL_hi {z : Str} {c : Int} (h0 : 0 ≤ c) (h : isL z = true) : isL (cutS z none (some c)) = true := by
  rw [isL_iff] at h ⊢
  intro x hx
  rw [cut_hi z h0] at hx
  exact h x (List.mem_of_mem_take hx)
theorem isL_lo {z : Str} {c : Int} (h0 : 0 ≤ c) (h : isL z = true) : isL (cutS z (some c) none) = true := by
  rw [isL_iff] at h ⊢
  intro x hx
  rw [cut_lo z h0] at hx
  exact h x (List.mem_of_mem_drop hx)
theorem len_app (a b : Str) : (a ++ b).length = a.length + b.length := Str.length_append a b
theorem len_hi {z : Str} {c : Int} (h0 : 0 ≤ c) : (cutS z none (some c)).length = min c.toNat z.length := by
  rw [len_list, cut_hi z h0, List.length_take, ← len_list]
theorem len_lo {z : Str} {c : Int} (h0 : 0 ≤ c) : (cutS z (some c) none).length = z.length - c.toNat := by
  rw [len_list, cut_lo z h0, List.length_drop, ← len_list]
/-- an item of a written list of texts -/
theorem at_strs {ss : List Str} {e : Int} (h0 : 0 ≤ e) (h : e < (ss.length : Int)) : ∃ s, atI (ss.map V.str) e = some (.str s) ∧ s ∈ ss ∧ ss[e.toNat]? = some s := by
  have hl : e.toNat < ss.length := by omega
  refine ⟨ss[e.toNat], ?_, List.getElem_mem hl, List.getElem?_eq_getElem hl⟩
  have e1 : (e.toNat : Int) = e := by omega
  have := atI_nat (xs := ss.map V.str) (j := e.toNat) (v := .str ss[e.toNat]) (by simp [hl])
  rwa [e1] at this
end WH
namespace WH
open PySem PySem.Spec PyProof.Rows L2
/-- a comprehension (no test) whose elements are new lists -/
theorem lc_refs' {J : It} {n : Nat} {G : Hp → Prop} {Y : Nat → Hp → V → Hp → Prop} (w : Walk J n G Y) {i0 : Nat} {te : TE} {vs : List Nat} {σ : Sl} {H1 : Hp} {D : Addr} {Qd : Hp → Prop}
    (c : Nat → List V) (hn : n < sizeLine) (hD : H1 D = none) (hG : ∀ H, Same H1 H → G H) (hw : ∀ x, wipe ((wipe σ vs).set i0 (some x)) vs = wipe σ vs)
    (hs : ∀ i x H H' (N : V → Hp → Prop), i < n → Same H1 H → Y i H x H' → (∀ l H4, H l = none → Same H H4 → H4 l = some (.lst (c i)) → N (.ref l) H4) → te ((wipe σ vs).set i0 (some x)) H' N)
    (hd : ∀ (ls : List Addr) H, Same H1 H → H D = some (.lst (ls.map V.ref)) → ls.length = n → (∀ (j : Nat) (l : Addr), ls[j]? = some l → H l = some (.lst (c j))) → Qd H) :
    ∃ W : Nat → Nat → Hp → Prop, (∃ m, W 0 m (upd H1 D (.lst []))) ∧ ∀ i m H, W i m H →
      (J.stop i H ∧ Qd H) ∨ (J.go i H ∧ ∃ Nx : Hp → Prop, (∀ H', Nx H' → ∃ m', m' < m ∧ W (i + 1) m' H') ∧ ∀ x H', J.yld i H x H' → gName i0 x (wipe σ vs) H' fun σ2 H2 => wipe σ2 vs = wipe σ vs ∧ tYes σ2 H2 fun b H3 =>
        if b = true then te σ2 H3 fun y H4 => ∃ acc, H4 D = some (.lst acc) ∧ acc.length < sizeLine ∧ Nx (upd H4 D (.lst (acc ++ [y]))) else Nx H3) := by
  refine lc_it w (fun i H => ∃ ls : List Addr, ls.length = i ∧ H D = some (.lst (ls.map V.ref)) ∧ (∀ (j : Nat) (l : Addr), ls[j]? = some l → l ≠ D ∧ H l = some (.lst (c j))) ∧ Same H1 H) ⟨[], rfl, upd_same, fun j l h => by simp at h, same_upd hD⟩ (fun i H _ p => hG H p.choose_spec.2.2.2) ?_ ?_
  · rintro i x H H' hi ⟨ls, hl, h1, h2, s⟩ hy
    refine ⟨hw x, yesT ?_⟩
    refine hs i x H H' _ hi s hy fun l H4 nl s4 h4 => ?_
    have nlD : l ≠ D := by
      intro z
      subst z
      rw [h1] at nl
      cases nl
    refine ⟨ls.map V.ref, s4 _ _ h1, ?_, ls ++ [l], by simp [hl], ?_, fun j m hj => ?_, same_set (s.trans s4) hD⟩
    · rw [List.length_map]
      omega
    · rw [upd_same]
      simp
    · by_cases hji : j < ls.length
      · rw [List.getElem?_append_left hji] at hj
        obtain ⟨a1, a2⟩ := h2 j m hj
        exact ⟨a1, by rw [upd_ne a1]; exact s4 _ _ a2⟩
      · have hj2 : j = ls.length := by
          have := (List.getElem?_eq_some_iff.mp hj).1
          rw [List.length_append] at this
          simp at this
          omega
        subst hj2
        rw [List.getElem?_append_right (Nat.le_refl _)] at hj
        simp at hj
        subst hj
        rw [hl]
        exact ⟨nlD, by rw [upd_ne nlD]; exact h4⟩
  · rintro H ⟨ls, hl, h1, h2, s⟩
    exact hd ls H s h1 hl fun j l h => (h2 j l h).2
theorem dpAll_refs {K : PySem.W.Frag} {H : Hp} : ∀ (ls : List Addr) (wss : List (List Str)), ls.length = wss.length → (∀ (j : Nat) (l : Addr) (ws : List Str), ls[j]? = some l → wss[j]? = some ws → SqL K H l (ws.map V.str)) → DpAll K H (ls.map V.ref) (dLol wss)
  | [], [], _, _ => .nil
  | [], _ :: _, h, _ => by simp at h
  | _ :: _, [], h, _ => by simp at h
  | l :: ls, ws :: wss, h, q => .cons (dp_lst (q 0 l ws rfl rfl)) (dpAll_refs ls wss (by simpa using h) fun j l' ws' h1 h2 => q (j + 1) l' ws' (by simpa using h1) (by simpa using h2))
/-- [due] * 2 -/
theorem dp_two {K : PySem.W.Frag} {H : Hp} {a l : Addr} {ws : List Str} (h : SqL K H a [.ref l, .ref l]) (hl : SqL K H l (ws.map V.str)) : Dp K H (.ref a) (.list (dLol [ws, ws])) :=
  .lst h (.cons (dp_lst hl) (.cons (dp_lst hl) .nil))
theorem gTurn_two {α : Type} {us ws : List α} (h : (gTurn us ws).length = 2) : us = [] ∧ ∃ a b, ws = [a, b] := by
  match us, ws, h with
  | [], [a, b], _ => exact ⟨rfl, a, b, rfl⟩
/-- the same behind a plain assignment -/
theorem seq_midN {i : Nat} {v : V} {t1 t2 : TS} {D : Ends} {σ : Sl} {H : Hp} (R : Sl → Hp → Prop) (h1 : ∀ N : Sl → Hp → Prop, (∀ σ' H', R σ' H' → N σ' H') → t1 { D with nx := N } (σ.set i (some v)) H) (h2 : ∀ σ' H', R σ' H' → t2 D σ' H') : gName i v σ H (tSeq t1 t2 D) := h1 _ h2
end WH
namespace WH
open PySem PySem.Spec PyProof.Rows L2
/-! ### repr, where it is known that no repr runs around -/
def rRepr (K : PySem.W.Frag) : List V → Hp → VK → Prop := fun xs H Q => ∃ (a : Addr) (d : PyData), xs = [.ref a] ∧ Dp K H (.ref a) d ∧ d.showable = true ∧ d.hasDict = false ∧ d.depth ≤ 60 ∧ d.shown.length ≤ sizeLine ∧ Q (.str d.shown) H
theorem call_repr {X : Cx} (hG : X.A.guards = some []) (hu : X.A.units + 64 < cLine) : CallR X (.builtin "repr") (rRepr X.K) := by
  intro pins s σ H xs us Q I r h
  obtain ⟨a, d, rfl, hd, hs, hn, hp, hz, q⟩ := h
  obtain ⟨u, rfl, ru⟩ := vals1 r
  obtain rfl : u = Value.ref a := ru
  obtain ⟨as, rd⟩ := hd.reads I d (.ref a) (.ref a) rfl
  exact repr_of_reads' rd hs (PyData.noDict_hsm hn) hG (by omega) (fun _ _ e => e) (fun h' t k keep => ⟨.str d.shown, H, I.kept keep, ⟨_, rfl⟩, q⟩) hz
/-- a def that keeps its promise where no repr runs around -/
structure FnG (P : Program) (w : World) (K : PySem.W.Frag) (mg : Str → Option Value) (base : Heap) (CX : CXT) (k : Nat) (f : Addr) (fd : FuncData) (ps : List Str) (sp : Sp) : Prop where
  len : ∀ vs H Q E, sp vs H Q E → vs.length = ps.length
  run : ∀ (A : Around) (outer : List Env) (s : Shared) (H : Hp) (args : Args) (us : List Value) (vs : List V) (Q : VK) (E : XK), Room k A → A.guards = some [] → Env0 P w K mg base A outer s H → BindsTo s fd args (ps.zip us) → Vals vs us →
    sp vs H Q E → codeAny (model P w) A (.call (.ref f) args) (CR CX outer P w H s Q E) s
section
variable {P : Program} {w : World} {K : PySem.W.Frag} {mg : Str → Option Value} {base : Heap} {CX : CXT}
theorem Fun.okG {x qual : Str} {st : Stmt} {f : Addr} {fd : FuncData} {N ps : List Str} {k : Nat} {sp : Sp} (F : Fun K x qual st f fd) (S : FnScope N ps (defScope st)) (len : ∀ vs H Q E, sp vs H Q E → vs.length = ps.length)
    (hbody : ∀ (cdv : Value) (A : Around) (outer : List Env) (s : Shared) (H : Hp) (vs : List V) (Q : VK) (E : XK), Room k (A.deeper (envOfC qual (defScope st) s.heap.objs.size f cdv)) → (A.deeper (envOfC qual (defScope st) s.heap.objs.size f cdv)).guards = some [] → sp vs H Q E →
      ∃ t, PSs (cxOf CX0 P w K mg base N qual (defScope st) f cdv A outer s H E).nox (defBody st) t ∧ t { nx := fun _ H' => Q .non H', rt := Q } (start N vs) H) : FnG P w K mg base CX0 (k + 1) f fd ps sp := by
  obtain ⟨oc, od, kV, doc, pm, an, cdv, ct, osl, rfl, lk, hcd⟩ := F.ex
  refine ⟨len, fun A outer s H args us vs Q E room hG env0 bind rel want => ?_⟩
  have inK : K.In s.heap := env0.mod.kin.keeps fun b o z => (env0.bs b o z).1
  have noLim : s.heap.NoLimit := env0.mod.nolimit.keeps fun b o z => (env0.bs b o z).1
  have kinds : ∀ y ∈ ps.zip us, (defScope st).names.lookup y.1 = some .local ∨ ((defScope st).names.lookup y.1 = some .cell ∧ ((cellsFrom (s.heap.objs.size + 1) (defScope st).names []).lookup y.1).isSome = true) := by
    rintro ⟨x', v'⟩ hy
    exact (S.par x' (List.of_mem_zip hy).1).elim (fun z => .inl z) fun z => .inr ⟨z, PySem.W.cellsFrom_some _ _ _ (.inl z)⟩
  refine codeAny_call_function room.depth (inK _ _ lk) rfl S.co S.gen rfl (PySem.W.codeRec_of inK hcd) (bind _ _ _ _ ?_)
  refine wpAny_newFunctionEnv_cells S.kind kinds fun env' isEnv s2 made => ?_
  subst isEnv
  refine ⟨noLim.keeps made.toInCall.keep, codeAny_func ?_⟩
  obtain ⟨t, derived, reading⟩ := hbody cdv A outer s H vs Q E (room.deeper _) hG want
  have inv : Inv (cxOf CX0 P w K mg base N qual (defScope st) f cdv A outer s H E) [] (start N vs) H s2 := inv_start S room.hd env0 (len _ _ _ _ want) rel made
  refine wpAny_mono (derived.nox.run [] s2 (start N vs) H _ inv reading) (fun flow s3 out => ?_) fun _ _ z => z
  have back : ∀ {σ3 : Sl} {H3 : Hp} {v3 : V} {u3 : Value}, Inv (cxOf CX0 P w K mg base N qual (defScope st) f cdv A outer s H E) [] σ3 H3 s3 → RelV v3 u3 → Q v3 H3 → CE outer P w H s Q u3 s3 := fun J rv3 q3 => ⟨_, _, J.os, J.bare, J.base, J.hok, rv3, q3⟩
  match flow, out with
  | .ret u3, ⟨v3, σ3, H3, J, rv3, q3⟩ => exact back J rv3 q3
  | .next, ⟨σ3, H3, J, q3⟩ => exact back (v3 := V.non) (u3 := Value.none) J rfl q3
  | .brk, ⟨_, _, _, q3⟩ => exact q3.elim
  | .cont, ⟨_, _, _, q3⟩ => exact q3.elim
end
section
variable {X : Cx} {CX : CXT} {k : Nat} {f : Addr} {fd : FuncData} {ps : List Str} {sp : Sp} {E : XK} {x : Str} {p pos : Pos} {e : Expr} {es : List Expr} {t : TA}
/-- f(e, ..), f such a def -/
theorem pe_callG (F : FnG X.prog X.w X.K X.mg X.base CX k f fd ps sp) (hr : Room k X.A) (hG : X.A.guards = some []) (hg : Gl X x) (hm : X.mg x = some (.ref f)) (hk : PySem.W.keepIn X.K (.ref f) = true) (hb : Binds X.K fd ps []) (hx : Passes CX X E) (ha : PA X (e :: es) t)
    (hdb : (x == ("__debug__" : Str)) = false := by decide) (he : starEach (e :: es) X.env = (false, eval e X.env) :: starEach es X.env := by rfl) (hpl : (backTo pos (starEach es X.env)).any (·.1) = false := by rfl) : PE X (.Call (.Name x p) (e :: es) [] pos) (tCall sp [] E t) := by
  refine ⟨fun pins s σ H Q I h => wpAny_Call_Name_kw (ld_glob I hg hm ?_ hdb)⟩
  refine PySem.W.callWith_K (h₀ := X.base) I.ok.mod.kin hk (thn (ha.run pos pins s σ H _ I h) fun us s1 ⟨vs, H1, I1, r, q⟩ => ⟨I1.kIn, ?_⟩) he hpl
  have q0 : sp vs H1 Q E := by simpa using q
  have le : us.length = ps.length := by rw [← r.length]; exact F.len _ _ _ _ q0
  have bd : BindsTo s1 fd ⟨us, []⟩ (ps.zip us) := by simpa using hb s1 us I1.kIn (by simpa using le)
  refine wpAny_call (codeAny_mono (F.run X.A X.stack s1 H1 ⟨us, []⟩ us vs Q E hr hG I1.env0 bd r q0) fun res s2 out => ?_)
  match res, out with
  | .error _, out => exact hx pins σ H1 s1 _ s2 I1 out
  | .ok (.ret _), out => exact I1.after out
  | .ok .next, out => exact out.elim
  | .ok .brk, out => exact out.elim
  | .ok .cont, out => exact out.elim
end
/-! ### the law's call: no repr runs around it -/
section
variable {P : Program} {w : World} {K : PySem.W.Frag} {mg mb : Str → Option Value} {k : Nat} {fa a : Addr} {fd : FuncData} {x : Str} {sp : Sp} {s₁ : Shared} {vs : List Value} {ns : List Int}
/-- from a heap in which the script alone may be tracked -/
theorem law_from {H : Hp} (inK : K.In s₁.heap) (hmod : s₁.heap.Ns mainGlobals mg) (hblt : s₁.heap.Ns builtinsNs mb) (hall : ∀ x : Str, x ≠ "__name__" → mb x = bootBuiltins x) (hlim : s₁.heap.NoLimit) (gens : s₁.gens = #[])
    (ha : s₁.heap.get? a = some { cls := .type "list", data := .seq vs.toArray }) (room : Room k callerA) (F : ∀ base : Heap, K.In base → base.Ns mainGlobals mg → FnG P w K mg base CX0 k fa fd [x] sp)
    (hbind : ∀ (s : Shared) (u : Value), BindsTo s fd ⟨[u], []⟩ [(x, u)]) (only : Only H) (want : sp [.ref a] H (fun v _ => v = .bl true) fun _ _ _ => False) (hok : HOk P w H s₁.heap)
    (just : ∀ b, H b ≠ none → b = a) (free : H a ≠ none → K.lookup a = none) :
    codeAny (model P w) callerA (.call (.ref fa) ⟨[.ref a], []⟩) (fun r s' => r = .ok (.ret (.bool true)) ∧ OldK s₁.heap s'.heap ∧ s'.os = s₁.os ∧ AllBare s'.gens) s₁ := by
  have atA : ∀ {b : Addr} {u : HO}, H b = some u → b = a := fun {b u} z => just b (by rw [z]; exact Option.some_ne_none u)
  have dictFree : ∀ {b : Addr} {o : Obj} {es : Array DictEntry} {n : Nat}, s₁.heap.get? b = some o → o.data = .dict es n → H b = none := by
    intro b o es n z1 z2
    match hb : H b with
    | none => rfl
    | some u =>
      obtain rfl := atA hb
      rw [ha] at z1
      obtain rfl := Option.some.inj z1
      exact nomatch z2
  have nsUp : ∀ {b : Addr} {m : Str → Option Value}, s₁.heap.Ns b m → (hidT s₁.heap H).Ns b m := by
    rintro b m ⟨o, es, n, z1, z2, z3⟩
    exact ⟨o, es, n, hidT_get z1 (dictFree z1 z2), z2, z3⟩
  have inKb : K.In (hidT s₁.heap H) := by
    intro b o z
    refine hidT_get (inK b o z) ?_
    match hb : H b with
    | none => rfl
    | some u =>
      obtain rfl := atA hb
      rw [free (by rw [hb]; exact Option.some_ne_none u)] at z
      exact nomatch z
  obtain ⟨mc, c1, c2⟩ := hlim
  have env0 : Env0 P w K mg (hidT s₁.heap H) callerA [] s₁ H :=
    ⟨rfl, ⟨inKb, nsUp hmod, ⟨mb, nsUp hblt, hall⟩, ⟨mc, nsUp c1, c2⟩⟩, fun b o z => of_hidT z, Nat.le_of_eq (hidT_size _ _), trivial, fun b z => absurd z (by exact List.not_mem_nil), hok, .of_eq gens⟩
  refine codeAny_mono ((F _ inKb (nsUp hmod)).run callerA [] s₁ H ⟨[.ref a], []⟩ [.ref a] [.ref a] _ _ room rfl env0 (hbind s₁ (.ref a)) (.cons rfl .nil) want) fun res s2 out => ?_
  match res, out with
  | .error _, out => exact out.elim
  | .ok .next, out => exact out.elim
  | .ok .brk, out => exact out.elim
  | .ok .cont, out => exact out.elim
  | .ok (.ret u), ⟨v, H2, os2, bare2, un2, hok2, rel2, (ev : v = .bl true)⟩ =>
    subst ev
    obtain rfl : u = Value.bool true := rel2
    refine ⟨rfl, OldK.of_keep fun b o z => ?_, os2, bare2⟩
    match hb : H b with
    | none => exact un2.keep b o z hb (fun y => absurd y (by exact List.not_mem_nil)) (by exact List.not_mem_nil)
    | some u =>
      rcases only b with y | ⟨ob, xs, y⟩
      · rw [hb] at y
        exact nomatch y
      · obtain ⟨z1, _⟩ := hok b _ y
        obtain ⟨z2, _⟩ := hok2 b _ (un2.frzs b ob _ y)
        rw [z] at z1
        obtain rfl := Option.some.inj z1
        exact z2
theorem law_go (inK : K.In s₁.heap) (hmod : s₁.heap.Ns mainGlobals mg) (hblt : s₁.heap.Ns builtinsNs mb) (hall : ∀ x : Str, x ≠ "__name__" → mb x = bootBuiltins x) (hlim : s₁.heap.NoLimit) (gens : s₁.gens = #[])
    (ha : s₁.heap.get? a = some { cls := .type "list", data := .seq vs.toArray }) (hi : IntsAre vs ns) (hl : ns.length ≤ sizeLine) (room : Room k callerA) (F : ∀ base : Heap, K.In base → base.Ns mainGlobals mg → FnG P w K mg base CX0 k fa fd [x] sp)
    (hbind : ∀ (s : Shared) (u : Value), BindsTo s fd ⟨[u], []⟩ [(x, u)]) (want : ∀ H : Hp, Only H → SqL K H a (ns.map V.int) → sp [.ref a] H (fun v _ => v = .bl true) fun _ _ _ => False) :
    codeAny (model P w) callerA (.call (.ref fa) ⟨[.ref a], []⟩) (fun r s' => r = .ok (.ret (.bool true)) ∧ OldK s₁.heap s'.heap ∧ s'.os = s₁.os ∧ AllBare s'.gens) s₁ := by
  have rv := vals_ints hi
  match hk : K.lookup a with
  | some o =>
    have z := inK a o hk
    rw [ha] at z
    obtain rfl := Option.some.inj z
    refine law_from (H := fun _ => none) inK hmod hblt hall hlim gens ha room F hbind (fun _ => .inl rfl) (want _ (fun _ => .inl rfl) (.inr ⟨_, vs.toArray, _, hk, rfl, rfl, rfl, ?_, by simpa using rv⟩)) (fun b u y => nomatch y) (fun b y => absurd rfl y) fun y => absurd rfl y
    rw [List.size_toArray, hi.length]
    exact hl
  | none =>
    let H0 : Hp := fun b => if b = a then some (.frz { cls := .type "list", data := .seq vs.toArray } (.lst (ns.map V.int))) else none
    have at0 : H0 a = some (.frz { cls := .type "list", data := .seq vs.toArray } (.lst (ns.map V.int))) := if_pos rfl
    have off : ∀ {b : Addr}, b ≠ a → H0 b = none := fun n => if_neg n
    have o0 : Only H0 := fun b => by
      by_cases n : b = a
      · exact .inr ⟨_, _, if_pos n⟩
      · exact .inl (off n)
    refine law_from (H := H0) inK hmod hblt hall hlim gens ha room F hbind o0 (want H0 o0 (.inl (.inr ⟨_, at0⟩))) (fun b u y => ?_) (fun b y => ?_) fun _ => hk
    · by_cases n : b = a
      · subst n
        rw [at0] at y
        obtain rfl := Option.some.inj y
        exact ⟨ha, by rw [List.length_map]; exact hl, vs, _, rv, ha⟩
      · rw [off n] at y
        exact nomatch y
    · by_cases n : b = a
      · exact n
      · exact absurd (off n) y
end
theorem walk_G {l : PySem.W.OpenLaw} {n k : Nat} {q : Program} {loose : List Str} {XP : (Str → Option Value) → Heap → Prop} {YP : World → Heap → Prop} {d : DefRec} {K : Params → PySem.W.Frag} {sp : World → Sp} {x : Str} (hn : l.most = some n) (hn2 : n ≤ sizeLine)
    (hdf : d.params.defaults = []) (room : Room k callerA) (hY : ∀ (w : World) (h : Heap), YP w h → (K w.params).In h)
    (F : ∀ (w : World) (mg : Str → Option Value) (fa : Addr) (h : Heap), (K w.params).In h → h.Ns mainGlobals mg → mg d.name = some (.ref fa) → ∃ fd : FuncData, (∀ (s : Shared) (u : Value), BindsTo s fd ⟨[u], []⟩ [(x, u)]) ∧
      ∀ base : Heap, (K w.params).In base → base.Ns mainGlobals mg → FnG l.prog w (K w.params) mg base CX0 k fa fd [x] (sp w))
    (want : ∀ (w : World) (H : Hp) (a : Addr) (ns : List Int), ns.length ≤ n → Only H → SqL (K w.params) H a (ns.map V.int) → sp w [.ref a] H (fun v _ => v = .bl true) fun _ _ _ => False) :
    PySem.W.WalkO q loose XP YP l.row.toRowW d [] (fun f vs => PySem.call f vs) := by
  refine Att.attach_call hn hdf fun w s₀ s₁ mg mb fa o pm cd doc a vs ns G Y ho hd hcd hmg hobj hints hlen hg => ?_
  obtain ⟨fd, hb, hF⟩ := F w mg fa _ (hY w _ Y) G.T.g hmg
  exact law_go (hY w _ Y) G.T.g G.T.b G.T.builtins G.T.nolimit hg hobj hints (Nat.le_trans hlen hn2) room hF hb fun H o1 o2 => want w H a ns hlen o1 o2
end WH
namespace WH
open PySem PySem.Spec PyProof.Rows L2
/-! ### how long a repr can be -/
theorem fits2 {d : PyData} (hl : d.leavesShort 2000 = true) (hw : d.weight ≤ 8000) : d.shown.length ≤ sizeLine := by
  have h1 := PyData.shown_le 2000 (by decide) d hl
  have h2 : (2000 + 2) * d.weight ≤ 2002 * 8000 := Nat.mul_le_mul_left _ hw
  rw [sizeLine_eq]
  omega
theorem short_str {x : Str} (h : PyData.strOk x = true) : PyData.leavesShort 2000 (.str x) = true := by
  unfold PyData.strOk at h
  rw [← Array.all_toList, List.all_eq_true] at h
  simp only [PyData.leavesShort]
  rw [List.all_eq_true]
  intro c hc
  have := of_decide_eq_true (h c hc)
  exact decide_eq_true (by omega)
theorem short_strs : ∀ {ws : List Str}, SOk ws → PyData.leavesShortAll 2000 (dStrs ws) = true
  | [], _ => by simp [dStrs, PyData.leavesShortAll]
  | x :: r, h => by
    have ih := short_strs (ws := r) fun y hy => h y (List.mem_cons_of_mem _ hy)
    have hx := short_str (h x List.mem_cons_self)
    unfold dStrs at ih ⊢
    rw [List.map_cons]
    simp only [PyData.leavesShortAll, hx, ih, Bool.and_self]
theorem weight_strs (m : Nat) : ∀ {ws : List Str}, (∀ x ∈ ws, x.length ≤ m) → PyData.weightAll (dStrs ws) ≤ ws.length * (m + 2)
  | [], _ => by simp [dStrs, PyData.weightAll]
  | x :: r, h => by
    have ih := weight_strs m (ws := r) fun y hy => h y (List.mem_cons_of_mem _ hy)
    have hx : x.cps.size ≤ m := h x List.mem_cons_self
    unfold dStrs at ih ⊢
    rw [List.map_cons]
    simp only [PyData.weightAll, PyData.weight, List.length_cons, Nat.add_mul]
    omega
theorem showable_strs : ∀ {ws : List Str}, PyData.showableAll (dStrs ws) = true
  | [] => by simp [dStrs, PyData.showableAll]
  | x :: r => by
    have ih := showable_strs (ws := r)
    unfold dStrs at ih ⊢
    rw [List.map_cons]
    simp only [PyData.showableAll, PyData.showable, ih, Bool.and_self]
theorem nodict_strs : ∀ {ws : List Str}, PyData.hasDictAll (dStrs ws) = false
  | [] => by simp [dStrs, PyData.hasDictAll]
  | x :: r => by
    have ih := nodict_strs (ws := r)
    unfold dStrs at ih ⊢
    rw [List.map_cons]
    simp only [PyData.hasDictAll, PyData.hasDict, ih, Bool.or_self]
/-- what repr asks of a list of texts -/
theorem repr_strs {K : PySem.W.Frag} {H : Hp} {a : Addr} {ws : List Str} (h : SqL K H a (ws.map V.str)) (sok : SOk ws) (m : Nat) (hm : ∀ x ∈ ws, x.length ≤ m) (hw : ws.length * (m + 2) ≤ 7000) :
    Dp K H (.ref a) (.list (dStrs ws)) ∧ (PyData.list (dStrs ws)).showable = true ∧ (PyData.list (dStrs ws)).hasDict = false ∧ (PyData.list (dStrs ws)).depth ≤ 60 ∧ (PyData.list (dStrs ws)).shown.length ≤ sizeLine := by
  have hd := depth_strs ws
  have hwt := weight_strs m hm
  refine ⟨dp_lst h, by simp only [PyData.showable, showable_strs], by simp only [PyData.hasDict, nodict_strs], ?_, fits2 ?_ ?_⟩
  · simp only [PyData.depth]
    omega
  · simp only [PyData.leavesShort, short_strs sok]
  · simp only [PyData.weight]
    omega
end WH
set_option maxHeartbeats 2000000
namespace WH
open PySem PySem.Spec PyProof.Rows L2 PySem.W PySem.Calls
/-! ### isinstance of a caught error that has fields -/
section
variable {prog : Program} {w : World} {A : Around} {E : Value → Shared → Prop} {s : Shared} {K : PySem.W.Frag} {x D : Addr} {ox : Obj} {od : Option Obj}
theorem data_first {name : Str} {a g : Value} (hc : (clsIn K D).isSome = true) (ha : findIn K (.ref D) name = some (some a)) (hg : specialIn K a "__get__" = some (some g)) (ht : takesIn K a = some true) : findObj K D od name = some (.bind g a) := by
  obtain ⟨cd, hc⟩ := Option.isSome_iff_exists.mp hc
  unfold findObj
  rw [hc, Option.bind_some, ha, Option.bind_some]
  simp [hg, ht]
theorem err_class {Q : Option Value → Shared → Prop} (T : ExcC K D) (X : K.In s.heap) (I : InstAt s.heap x ox D od) (h : Q (some (.ref D)) { s with toks := s.toks + 1 }) : wpAny (model prog w) A (getAttr? (.ref x) "__class__") Q E s := by
  have hf : findObj K D od "__class__" = some (.bind (.builtin "getset_descriptor.__get__") (.builtin "object.__class__")) := data_first (by obtain ⟨cd, hc, _⟩ := any_some T.hd; rw [hc]; rfl) T.ha T.hn T.ht
  obtain ⟨hp, g, d, t, os⟩ := s
  have T0 := I.type (M := model prog w)
  have T1 := looks_findIn (M := model prog w) X T.hg
  have T2 := looks_findIn (M := model prog w) X T.hk
  have T3 := looks_find (M := model prog w) X I hf
  have isB : Looks (model prog w) hp (isInstance (.ref x) (.type "BaseException")) true := T0.andThen (looks_subIn X T.hs)
  have n0 : (false && onTheHeap (Value.builtin "BaseException.__getattribute__")) = false := rfl
  have n2 : (Value.builtin "BaseException.__getattribute__" == Value.builtin "object.__getattribute__") = false := by decide +kernel
  have n1 : (onTheHeap (Value.ref D) && Value.builtin "BaseException.__getattribute__" == Value.builtin "object.__getattribute__") = false := by rw [n2]; rfl
  unfold getAttr? getAttrBy? getAttrBy
  refine wpAny_bind (wpAny_mkText (wpAny_bind (wpAny_attempt (wpAny_holding (wpAny_bind (T0.at (wpAny_bind (T1.at ?_))))))))
  show wpAny _ _ (if (onTheHeap (Value.ref D) && Value.builtin "BaseException.__getattribute__" == Value.builtin "object.__getattribute__") = true then _ else _) _ _ _
  rw [n1, if_neg Bool.false_ne_true]
  unfold getAttrByItsOwn hookBefore
  refine wpAny_bind ?_
  rw [if_pos (show onTheHeap (Value.ref D) = true from rfl)]
  refine T2.at (wpAny_bind (wpAny_attempt (wpAny_holding ?_)))
  unfold callGetattribute
  rw [n0, if_neg Bool.false_ne_true]
  unfold boundAndCalled
  rw [PySem.F.excAttr_ValueError.ga.bind (.ref x)]
  refine wpAny_bind (wpAny_pure ?_)
  show wpAny _ _ (PySem.call (.builtin "BaseException.__getattribute__") [.ref x, .str "__class__" t]) _ _ _
  refine wpAny_call (codeAny_call_builtin PySem.F.excAttr_ValueError.ga.plain PySem.F.entry_bexc_ga ?_)
  refine @check_slot (model prog w) _ _ ⟨hp, g, d, t + 1, os⟩ "BaseException.__getattribute__" "BaseException" "__getattribute__" (.ref x) [.str "__class__" t] [] _ (by decide +kernel) (by decide +kernel) isB (PySem.F.args_bexc_ga (.ref x) (.str "__class__" t)) ?_
  unfold Builtin.«object.__getattribute__»
  refine wpAny_bind (wpAny_of_eq (a := ((Value.ref x : Value), [Value.str "__class__" t])) (by first | rfl | (simp only [slotArgs]; rfl)) ?_)
  refine wpAny_bind (wpAny_pure (wpAny_bind (T0.at (wpAny_bind (T3.at ?_)))))
  show wpAny _ _ (holding [Value.builtin "object.__class__"] (PySem.call (.builtin "getset_descriptor.__get__") [.builtin "object.__class__", .ref x, .ref D]) >>= ret) _ _ _
  refine wpAny_bind (wpAny_holding (wpAny_call (class_get (s := ⟨hp, g, d, t + 1, os⟩) (ox := ox) (od := od) X I T.hm ?_)))
  refine wpAny_pure ?_
  show wpAny _ _ (handedOut (.ref D)) _ _ _
  rw [handedOut_of (v := .ref D) rfl]
  first
    | exact wpAny_pure (wpAny_pure h)
    | exact wpAny_pure h
    | exact wpAny_pure (wpAny_bind (wpAny_pure (wpAny_pure h)))
theorem err_kit (T : ExcC K D) : KitX K (.ref x) (.ref D) (fun h => InstAt h x ox D od) where
  ty := fun _ _ _ I => I.type
  it := fun M h X _ A' Q' E' s' keep q => by
    obtain ⟨cd, hcd, _⟩ := any_some T.hd
    unfold clsIn at hcd
    split at hcd
    · rename_i c1 d1 cd1 l1 hl
      unfold isType loadHead
      exact wpAny_bind (wpAny_loadPart (keep _ _ (X _ _ hl)) (wpAny_pure q))
    · exact nomatch hcd
  ne := fun h tp dd its n sl X htp => (handS_kitx_exc (x := x) (ox := ox) T.hg T.hk T.hs T.hd T.ha T.hn T.ht T.hm).ne h tp dd its n sl X htp
  ca := fun X I k => err_class T X I k
end
section
variable {X : Cx} {a : Addr} {oe : Obj} {cls : Value} {d : Option Addr} {pn : List (Addr × Obj)}
/-- the caught error at a, its class D, its own dict -/
theorem err_at {pins : List (Addr × Obj)} {s : Shared} {σ : Sl} {H : Hp} {D dd : Addr} {fs : List (Str × V)} (I : Inv (X.suite a ((a, oe) :: pn)) pins σ H s) (hz : Zc (.ref D) (some dd) oe) (hf : ∃ vs, oe.data = .fields vs) (hd : H dd = some (.xd fs)) :
    ∃ od, InstAt s.heap a oe D (some od) := by
  obtain ⟨hget, _⟩ := I.pin (a, oe) (List.mem_append.mpr (.inl List.mem_cons_self))
  obtain ⟨vs, hv⟩ := hf
  obtain ⟨mA, hns, _⟩ := (show ObjOk X.prog X.w H s.heap dd (.xd fs) from I.hok dd _ hd)
  obtain ⟨od, ho, _⟩ := lookIn_ns hns
  exact ⟨od, hget, hz.1, by unfold notCls; rw [hv] <;> rfl, by rw [hz.2]; exact ho⟩
/-- isinstance(e, c) -/
def rIsX (K : PySem.W.Frag) (a : Addr) (cls : Value) (d : Option Addr) : List V → Hp → VK → Prop := fun xs H Q => ∃ (D dd : Addr) (fs : List (Str × V)) (c : V) (cv : Value) (b : Bool), cls = .ref D ∧ d = some dd ∧ ExcC K D ∧ H dd = some (.xd fs) ∧ xs = [.ref a, c] ∧ ClsV c cv ∧ kitOne K (.ref D) cv = some b ∧ Q (.bl b) H
theorem call_isX (hz : Zc cls d oe) (hf : ∃ vs, oe.data = .fields vs) : CallR (X.suite a ((a, oe) :: pn)) (.builtin "isinstance") (rIsX X.K a cls d) := by
  intro pins s σ H xs us Q I r h
  obtain ⟨D, dd, fs, c, cv, b, rfl, rfl, T, hd, rfl, hc, e, q⟩ := h
  obtain ⟨u1, u2, rfl, r1, r2⟩ := vals2 r
  obtain rfl : u1 = Value.ref a := r1
  have ec := hc.eq r2
  subst ec
  obtain ⟨od, J⟩ := err_at I hz hf hd
  exact kia_one (err_kit T) I.kIn J e (fun z => nomatch z) fun tk => ⟨.bl b, H, I.kept (t' := tk) fun _ _ z => z, rfl, q⟩
/-- isinstance(e, (c, ..)) -/
def rIsXT (K : PySem.W.Frag) (a : Addr) (cls : Value) (d : Option Addr) : List V → Hp → VK → Prop := fun xs H Q => ∃ (D dd tp : Addr) (fs : List (Str × V)) (cs : List V) (cvs : List Value) (b : Bool), cls = .ref D ∧ d = some dd ∧ ExcC K D ∧ H dd = some (.xd fs) ∧ xs = [.ref a, .ref tp] ∧ H tp = some (.tup cs) ∧
  Paired ClsV cs cvs ∧ kitAny K (.ref D) cvs = some b ∧ Q (.bl b) H
theorem call_isXT (hz : Zc cls d oe) (hf : ∃ vs, oe.data = .fields vs) : CallR (X.suite a ((a, oe) :: pn)) (.builtin "isinstance") (rIsXT X.K a cls d) := by
  intro pins s σ H xs us Q I r h
  obtain ⟨D, dd, tp, fs, cs, cvs, b, rfl, rfl, T, hd, rfl, hT, hc, e, q⟩ := h
  obtain ⟨u1, u2, rfl, r1, r2⟩ := vals2 r
  obtain rfl : u1 = Value.ref a := r1
  obtain rfl : u2 = Value.ref tp := r2
  obtain ⟨od, J⟩ := err_at I hz hf hd
  obtain ⟨_, its, rv, o, h1, h2, n, h3⟩ := (show ObjOk X.prog X.w H s.heap tp (.tup cs) from I.hok tp _ hT)
  have e3 := ClsV.all hc rv
  subst e3
  obtain ⟨oc, oe', dt, sl⟩ := o
  simp only at h2 h3
  subst h2 h3
  exact kia_tup (err_kit T) I.kIn J h1 e (fun z => nomatch z) fun tk => ⟨.bl b, H, I.kept (t' := tk) fun _ _ z => z, rfl, q⟩
end
end WH
namespace WH
open PySem PySem.Spec PyProof.Rows L2
section
variable {X : Cx} {CX : CXT} {k : Nat} {f : Addr} {fd : FuncData} {ps ks : List Str} {sp : Sp} {E : Sl → XK} {x : Str} {p pos : Pos} {kws : List Keyword} {tk : TA} {g : List Value → List Value → List Value} {gV : List V → List V → List V}
/-- f(k = v, ..) within a try -/
def tCallKS (sp : Sp) (gV : List V → List V → List V) (E : Sl → XK) (tk : TA) : TE := fun σ H Q => tk σ H fun zs H1 => sp (gV [] zs) H1 Q (E σ)
theorem pe_callK0S (F : FnOk X.prog X.w X.K X.mg X.base CX k f fd ps sp) (hr : Room k X.A) (hg : Gl X x) (hm : X.mg x = some (.ref f)) (hk : PySem.W.keepIn X.K (.ref f) = true) (hb : KBinds X.K fd ps ks g gV) (hx : ∀ σ, PassesAt CX X σ (E σ)) (hkw : PK X kws tk)
    (hall : (backToKw pos (keywordEach kws X.env)).all (·.1.isSome) = true := by rfl) (hks : (backToKw pos (keywordEach kws X.env)).filterMap (·.1) = ks := by rfl) (hdb : (x == ("__debug__" : Str)) = false := by decide)
    (hpl : ((backTo pos (starEach [] X.env)).any (·.1) || (backToKw pos (keywordEach kws X.env)).any (·.1.isNone)) = false := by rfl) : PE X (.Call (.Name x p) [] kws pos) (tCallKS sp gV E tk) := by
  refine ⟨fun pins s σ H Q I h => wpAny_Call_Name_kw (ld_glob I hg hm ?_ hdb)⟩
  refine PySem.W.callWith_KW0 (h₀ := X.base) I.ok.mod.kin hk hall ?_ hpl
  refine thn (hkw.run pos pins s σ H _ I h) fun ws s2 ⟨zs, H2, I2, rz, q2⟩ => ⟨I2.kIn, ?_⟩
  rw [hks]
  have rel := hb.rel (vs := []) (us := []) .nil rz
  have le : (g [] ws).length = ps.length := by rw [← rel.length]; exact F.len _ _ _ _ q2
  refine wpAny_call (codeAny_mono (F.run X.A X.stack s2 H2 ⟨[], ks.zip ws⟩ (g [] ws) (gV [] zs) Q (E σ) hr I2.env0 (hb.to s2 [] ws I2.kIn le) rel q2) fun res s3 out => ?_)
  match res, out with
  | .error _, out => exact hx σ pins H2 s2 _ s3 I2 out
  | .ok (.ret _), out => exact I2.after out
  | .ok .next, out => exact out.elim
  | .ok .brk, out => exact out.elim
  | .ok .cont, out => exact out.elim
end
end WH
namespace WH
open PySem PySem.Spec PyProof.Rows L2
/-- isinstance against an own class, by subIn -/
theorem kit_ref {K : PySem.W.Frag} {D C : Addr} {b : Bool} (hc : PySem.W.isClsIn K C = true) (ht : PySem.W.typeIn K (.ref C) = some (.type "type")) (hs : PySem.W.subIn K (.ref D) (.ref C) = some b) (hn : b = true ∨ D ≠ C) : PySem.W.kitOne K (.ref D) (.ref C) = some b := by
  unfold PySem.W.kitOne
  by_cases e : D = C
  · have hb : b = true := hn.elim id fun z => absurd e z
    subst e
    rw [if_pos (by simp), hb]
  · rw [if_neg (by simp [e])]
    unfold PySem.W.kitCls
    have hc' : (PySem.W.clsIn K C).isSome = true := hc
    have h : ((PySem.W.clsIn K C).isSome && PySem.W.typeIn K (.ref C) == some (.type "type")) = true := by rw [hc', ht]; rfl
    dsimp only
    rw [if_pos h]
    exact hs
theorem kit_any {K : PySem.W.Frag} {t : Value} : ∀ {cs : List Value}, (∀ c ∈ cs, PySem.W.kitOne K t c = some false) → PySem.W.kitAny K t cs = some false
  | [], _ => rfl
  | c :: r, h => by
    unfold PySem.W.kitAny
    rw [h c List.mem_cons_self]
    exact kit_any fun x hx => h x (List.mem_cons_of_mem _ hx)
theorem kit_VE {K : PySem.W.Frag} {D : Addr} {b : Bool} (hs : PySem.W.subIn K (.ref D) (.type "ValueError") = some b) : PySem.W.kitOne K (.ref D) (.type "ValueError") = some b := by
  unfold PySem.W.kitOne PySem.W.kitCls
  rw [if_neg (by simp)]
  dsimp only
  rw [if_pos (by decide +kernel)]
  exact hs
theorem kit_self {K : PySem.W.Frag} {D : Addr} : PySem.W.kitOne K (.ref D) (.ref D) = some true := by
  unfold PySem.W.kitOne
  rw [if_pos (by simp)]
end WH
set_option maxHeartbeats 2000000
namespace WH
open PySem PySem.Spec PyProof.Rows L2 PySem.W PySem.Calls
/-! ### a def of the law that is called with the caught error, in an except suite -/
/-- what is known of the caught error's object -/
structure Got (q : Addr × Obj) (cls : Value) (d : Option Addr) : Prop where
  z : Zc cls d q.2
  f : ∃ vs, q.2.data = .fields vs
structure FnP (P : Program) (w : World) (K : PySem.W.Frag) (mg : Str → Option Value) (base : Heap) (k : Nat) (f : Addr) (fd : FuncData) (ps : List Str) (sp : Addr → Value → Option Addr → Sp) : Prop where
  len : ∀ a c d vs H Q E, sp a c d vs H Q E → vs.length = ps.length
  run : ∀ (A : Around) (outer : List Env) (s : Shared) (H : Hp) (args : Args) (us : List Value) (vs : List V) (Q : VK) (E : XK) (q : Addr × Obj) (c : Value) (d : Option Addr), Got q c d → L2H.RoomH k A → L2H.PinOk outer H s q →
    Env0 P w K mg base A outer s H → BindsTo s fd args (ps.zip us) → Vals vs us → sp q.1 c d vs H Q E → codeAny (model P w) A (.call (.ref f) args) (CR CX0 outer P w H s Q E) s
section
variable {P : Program} {w : World} {K : PySem.W.Frag} {mg : Str → Option Value} {base : Heap}
theorem Fun.okP {x qual : Str} {st : Stmt} {f : Addr} {fd : FuncData} {N ps : List Str} {k : Nat} {sp : Addr → Value → Option Addr → Sp} (F : Fun K x qual st f fd) (S : FnScope N ps (defScope st)) (len : ∀ a c d vs H Q E, sp a c d vs H Q E → vs.length = ps.length)
    (hbody : ∀ (cdv : Value) (A : Around) (outer : List Env) (s : Shared) (H : Hp) (vs : List V) (Q : VK) (E : XK) (q : Addr × Obj) (c : Value) (d : Option Addr), Got q c d → L2H.RoomH k (A.deeper (envOfC qual (defScope st) s.heap.objs.size f cdv)) → sp q.1 c d vs H Q E →
      ∃ t, PSs (L2H.cxH CX0 P w K mg base N qual (defScope st) f cdv A outer s H E q) (defBody st) t ∧ t { nx := fun _ H' => Q .non H', rt := Q } (start N vs) H) : FnP P w K mg base (k + 1) f fd ps sp := by
  obtain ⟨oc, od, kV, doc, pm, an, cdv, ct, osl, rfl, lk, hcd⟩ := F.ex
  refine ⟨len, fun A outer s H args us vs Q E q c d got room pin env0 bind rel want => ?_⟩
  have inK : K.In s.heap := env0.mod.kin.keeps fun b o z => (env0.bs b o z).1
  have noLim : s.heap.NoLimit := env0.mod.nolimit.keeps fun b o z => (env0.bs b o z).1
  have kinds : ∀ y ∈ ps.zip us, (defScope st).names.lookup y.1 = some .local ∨ ((defScope st).names.lookup y.1 = some .cell ∧ ((cellsFrom (s.heap.objs.size + 1) (defScope st).names []).lookup y.1).isSome = true) := by
    rintro ⟨x', v'⟩ hy
    exact (S.par x' (List.of_mem_zip hy).1).elim (fun z => .inl z) fun z => .inr ⟨z, PySem.W.cellsFrom_some _ _ _ (.inl z)⟩
  refine codeAny_call_function room.depth (inK _ _ lk) rfl S.co S.gen rfl (PySem.W.codeRec_of inK hcd) (bind _ _ _ _ ?_)
  refine wpAny_newFunctionEnv_cells S.kind kinds fun env' isEnv s2 made => ?_
  subst isEnv
  refine ⟨noLim.keeps made.toInCall.keep, codeAny_func ?_⟩
  obtain ⟨t, derived, reading⟩ := hbody cdv A outer s H vs Q E q c d got (room.deeper _) want
  have inv := L2H.inv_startH (CX := CX0) (E := E) S pin env0 (len _ _ _ _ _ _ _ want) rel made
  refine wpAny_mono (derived.run [] s2 (start N vs) H _ inv reading) (fun flow s3 out => ?_) fun _ _ z => z
  have back : ∀ {σ3 : Sl} {H3 : Hp} {v3 : V} {u3 : Value}, Inv (L2H.cxH CX0 P w K mg base N qual (defScope st) f cdv A outer s H E q) [] σ3 H3 s3 → RelV v3 u3 → Q v3 H3 → CE outer P w H s Q u3 s3 := fun J rv3 q3 => ⟨_, _, J.os, J.bare, J.base, J.hok, rv3, q3⟩
  match flow, out with
  | .ret u3, ⟨v3, σ3, H3, J, rv3, q3⟩ => exact back J rv3 q3
  | .next, ⟨σ3, H3, J, q3⟩ => exact back (v3 := V.non) (u3 := Value.none) J rfl q3
  | .brk, ⟨_, _, _, q3⟩ => exact q3.elim
  | .cont, ⟨_, _, _, q3⟩ => exact q3.elim
end
theorem roomH_of {k : Nat} {A : Around} (r : Room k A) (h : Option Value) : L2H.RoomH k (A.mark h) := ⟨r.dp, r.un⟩
section
variable {X : Cx} {k : Nat} {f : Addr} {fd : FuncData} {ps : List Str} {sp : Addr → Value → Option Addr → Sp} {x : Str} {p pos : Pos} {e : Expr} {es : List Expr} {t : TA} {b : Addr} {ob : Obj} {c : Value} {d : Option Addr}
/-- f(e, ..), where b's object is pinned -/
theorem pe_callP (F : FnP X.prog X.w X.K X.mg X.base k f fd ps sp) (hp : (b, ob) ∈ X.pn) (got : Got (b, ob) c d) (hr : L2H.RoomH k X.A) (hg : Gl X x) (hm : X.mg x = some (.ref f)) (hk : PySem.W.keepIn X.K (.ref f) = true) (hb : Binds X.K fd ps []) (ha : PA X (e :: es) t)
    (hdb : (x == ("__debug__" : Str)) = false := by decide) (he : starEach (e :: es) X.env = (false, eval e X.env) :: starEach es X.env := by rfl) (hpl : (backTo pos (starEach es X.env)).any (·.1) = false := by rfl) : PE X (.Call (.Name x p) (e :: es) [] pos) (tCall (sp b c d) [] E0 t) := by
  refine ⟨fun pins s σ H Q I h => wpAny_Call_Name_kw (ld_glob I hg hm ?_ hdb)⟩
  refine PySem.W.callWith_K (h₀ := X.base) I.ok.mod.kin hk (thn (ha.run pos pins s σ H _ I h) fun us s1 ⟨vs, H1, I1, r, q0⟩ => ⟨I1.kIn, ?_⟩) he hpl
  have want : sp b c d vs H1 Q E0 := by simpa using q0
  have le : us.length = ps.length := by rw [← r.length]; exact F.len _ _ _ _ _ _ _ want
  have bd : BindsTo s1 fd ⟨us, []⟩ (ps.zip us) := by simpa using hb s1 us I1.kIn (by simpa using le)
  obtain ⟨pin1, pin2, pin3, pin4, pin5⟩ := I1.pin (b, ob) (List.mem_append_left _ hp)
  have pin : L2H.PinOk X.stack H1 s1 (b, ob) := ⟨pin1, pin2, fun mem => (List.mem_cons.mp (I1.stkSub b mem)).elim pin3 pin4, pin5⟩
  refine wpAny_call (codeAny_mono (F.run X.A X.stack s1 H1 ⟨us, []⟩ us vs Q E0 (b, ob) c d got hr pin I1.env0 bd r want) fun res s2 out => ?_)
  match res, out with
  | .error _, out => exact out.elim
  | .ok (.ret _), out => exact I1.after out
  | .ok .next, out => exact out.elim
  | .ok .brk, out => exact out.elim
  | .ok .cont, out => exact out.elim
end
section
variable {X : Cx} {q : Addr × Obj} {cls : Value} {d : Option Addr}
theorem err_in {pins : List (Addr × Obj)} {s : Shared} {σ : Sl} {H : Hp} {D dd : Addr} {fs : List (Str × V)} (hp : q ∈ X.pn) (I : Inv X pins σ H s) (got : Got q (.ref D) (some dd)) (hd : H dd = some (.xd fs)) :
    ∃ od, InstAt s.heap q.1 q.2 D (some od) := by
  obtain ⟨hget, _⟩ := I.pin q (List.mem_append_left _ hp)
  obtain ⟨hz, vs, hv⟩ := got
  obtain ⟨mA, hns, _⟩ := (show ObjOk X.prog X.w H s.heap dd (.xd fs) from I.hok dd _ hd)
  obtain ⟨od, ho, _⟩ := lookIn_ns hns
  exact ⟨od, hget, hz.1, by unfold notCls; rw [hv] <;> rfl, by rw [hz.2]; exact ho⟩
theorem call_isP (hp : q ∈ X.pn) (got : Got q cls d) : CallR X (.builtin "isinstance") (rIsX X.K q.1 cls d) := by
  intro pins s σ H xs us Q I r h
  obtain ⟨D, dd, fs, c, cv, b, rfl, rfl, T, hd, rfl, hc, e, want⟩ := h
  obtain ⟨u1, u2, rfl, r1, r2⟩ := vals2 r
  obtain rfl : u1 = Value.ref q.1 := r1
  have ec := hc.eq r2
  subst ec
  obtain ⟨od, J⟩ := err_in hp I got hd
  exact kia_one (err_kit T) I.kIn J e (fun z => nomatch z) fun tk => ⟨.bl b, H, I.kept (t' := tk) fun _ _ z => z, rfl, want⟩
theorem call_isPT (hp : q ∈ X.pn) (got : Got q cls d) : CallR X (.builtin "isinstance") (rIsXT X.K q.1 cls d) := by
  intro pins s σ H xs us Q I r h
  obtain ⟨D, dd, tp, fs, cs, cvs, b, rfl, rfl, T, hd, rfl, hT, hc, e, want⟩ := h
  obtain ⟨u1, u2, rfl, r1, r2⟩ := vals2 r
  obtain rfl : u1 = Value.ref q.1 := r1
  obtain rfl : u2 = Value.ref tp := r2
  obtain ⟨od, J⟩ := err_in hp I got hd
  obtain ⟨_, its, rv, o, h1, h2, n, h3⟩ := (show ObjOk X.prog X.w H s.heap tp (.tup cs) from I.hok tp _ hT)
  have e3 := ClsV.all hc rv
  subst e3
  obtain ⟨oc, oe', dt, sl⟩ := o
  simp only at h2 h3
  subst h2 h3
  exact kia_tup (err_kit T) I.kIn J h1 e (fun z => nomatch z) fun tk => ⟨.bl b, H, I.kept (t' := tk) fun _ _ z => z, rfl, want⟩
/-- e.f of the caught error, whatever its class -/
def tXp (K : PySem.W.Frag) (a : Addr) (cls : Value) (d : Option Addr) (f : Str) (te : TE) : TE := fun σ H Q => te σ H fun x H1 => ∃ (D dd : Addr) (fs : List (Str × V)) (v : V), x = .ref a ∧ cls = .ref D ∧ d = some dd ∧ XfC K D ∧ findIn K (.ref D) f = some none ∧
  H1 dd = some (.xd fs) ∧ fs.lookup f = some v ∧ Q v H1
theorem pe_xp {e : Expr} {te : TE} {pos : Pos} {n : Str} (hp : q ∈ X.pn) (got : Got q cls d) (he : PE X e te) (hb : attributeBase e n X.env (eval e X.env) = eval e X.env := by rfl) : PE X (.Attribute e n pos) (tXp X.K q.1 cls d n te) := by
  refine ⟨fun pins s σ H Q I h => attr_of hb (thn (he.run pins s σ H _ I h) fun u s1 hh => ?_)⟩
  obtain ⟨y, H1, I1, ry, D, dd, fs, v, rfl, rfl, rfl, T, hno, ea, l, want⟩ := hh
  obtain rfl : u = Value.ref q.1 := ry
  obtain ⟨there, _⟩ := I1.pin q (List.mem_append_left _ hp)
  obtain ⟨hz, vs, hv⟩ := got
  obtain ⟨mA, hns, hr⟩ := (show ObjOk X.prog X.w H1 s1.heap dd (.xd fs) from I1.hok dd _ ea)
  obtain ⟨od, ho, hl⟩ := lookIn_ns hns
  obtain ⟨u, hu, ru⟩ := RelO.some_of (v := v) (o := mA n) (by rw [← l]; exact hr n)
  have J : InstAt s1.heap q.1 q.2 D (some od) := ⟨there, hz.1, by unfold notCls; rw [hv] <;> rfl, by rw [hz.2]; exact ho⟩
  have found := findObj_own (od := od) T.hdC hno rfl (by rw [hl, hu])
  exact HandSPX.exc_get I1.kIn J T.ga T.gg T.exC found (handed_of ru) ⟨v, H1, I1.tok _, ru, want⟩
end
end WH
namespace WH
open PySem PySem.Spec PyProof.Rows L2
section
variable {X : Cx} {CX : CXT} {k : Nat} {f C : Addr} {fd : FuncData} {ps ks : List Str} {ds : List Value} {dvs : List V} {sp : Sp} {E : Sl → XK} {x : Str} {p pos : Pos} {e : Expr} {es : List Expr} {kws : List Keyword} {t tk : TA} {g : List Value → List Value → List Value} {gV : List V → List V → List V}
/-- C(e, ..) within a try: __init__ may raise -/
def tMakeS (C : Addr) (sp : Sp) (E : Sl → XK) (t : TA) : TE := fun σ H Q => t σ H fun vs H1 => ∀ x dx, H1 x = none → H1 dx = none → dx ≠ x → sp (.ref x :: vs) (upd (upd H1 dx (.own x)) x (.ins C dx [])) (fun v H2 => v = .non ∧ Q (.ref x) H2) (E σ)
theorem pe_makeS (M : Mk X.K C f) (F : FnOk X.prog X.w X.K X.mg X.base CX k f fd ps sp) (hr : Room (k + 1) X.A) (hg : Gl X x) (hm : X.mg x = some (.ref C)) (hb : Binds X.K fd ps []) (hx : ∀ σ, PassesAt CX X σ (E σ))
    (ha : PA X (e :: es) t) (hdb : (x == ("__debug__" : Str)) = false := by decide) (he : starEach (e :: es) X.env = (false, eval e X.env) :: starEach es X.env := by rfl) (hpl : (backTo pos (starEach es X.env)).any (·.1) = false := by rfl) :
    PE X (.Call (.Name x p) (e :: es) [] pos) (tMakeS C sp E t) := by
  refine ⟨fun pins s σ H Q I h => ?_⟩
  refine wpAny_Call_Name_kw (ld_glob I hg hm ?_ hdb)
  refine PySem.W.callWith_K (h₀ := X.base) I.ok.mod.kin M.kp (thn (ha.run pos pins s σ H _ I h) fun us s1 ⟨vs, H1, I1, r, q⟩ => ⟨I1.kIn, ?_⟩) he hpl
  have hq := q (s1.heap.objs.size + 1) s1.heap.objs.size (I1.hok.fresh (Nat.le_succ _)) (I1.hok.fresh (Nat.le_refl _)) (Nat.ne_of_lt (Nat.lt_succ_self _))
  have I2 := Inv.made (C := C) I1
  have r2 : Vals (V.ref (s1.heap.objs.size + 1) :: vs) (Value.ref (s1.heap.objs.size + 1) :: us) := .cons rfl r
  have hl : (Value.ref (s1.heap.objs.size + 1) :: us ++ ([] : List Value)).length = ps.length := by
    have e := r2.length
    rw [F.len _ _ _ _ hq] at e
    rw [List.append_nil]
    exact e.symm
  have hb' := hb s1 (Value.ref (s1.heap.objs.size + 1) :: us)
  refine wpAny_call (make_map (f := f) I1.kIn M.makes M.init (beq_iff_eq.mp M.fn) (codeAny_mono (F.run _ X.stack _ _ ⟨Value.ref (s1.heap.objs.size + 1) :: us, []⟩ (Value.ref (s1.heap.objs.size + 1) :: us) _ _ (E σ) (hr.make C us [])
    (I2.env0.make C us []) (by simpa using hb _ (Value.ref (s1.heap.objs.size + 1) :: us) I2.kIn hl) r2 hq) fun r s' hq' => ?_))
  match r, hq' with
  | .error e, hq' => exact hx σ pins _ _ e s' I2 hq'
  | .ok (.ret u), hq' =>
    obtain ⟨v, H', I3, rv, ev, q3⟩ := I2.after hq'
    subst ev
    exact ⟨rv, ⟨V.ref (s1.heap.objs.size + 1), H', I3, rfl, q3⟩⟩
  | .ok .next, hq' => exact False.elim hq'
  | .ok .brk, hq' => exact False.elim hq'
  | .ok .cont, hq' => exact False.elim hq'
/-- C(k = v, ..) within a try -/
def tMakeK0S (C : Addr) (m : Nat) (sp : Sp) (gV : List V → List V → List V) (E : Sl → XK) (tk : TA) : TE := fun σ H Q => tk σ H fun zs H2 => zs.length = m ∧ ∀ x dx, H2 x = none → H2 dx = none → dx ≠ x →
  sp (gV [.ref x] zs) (upd (upd H2 dx (.own x)) x (.ins C dx [])) (fun v H3 => v = .non ∧ Q (.ref x) H3) (E σ)
theorem pe_makeK0S (M : Mk X.K C f) (F : FnOk X.prog X.w X.K X.mg X.base CX k f fd ps sp) (hr : Room (k + 1) X.A) (hg : Gl X x) (hm : X.mg x = some (.ref C)) (hb : KBn X.K fd ps 1 ks g gV) (hx : ∀ σ, PassesAt CX X σ (E σ)) (hkw : PK X kws tk)
    (hall : (backToKw pos (keywordEach kws X.env)).all (·.1.isSome) = true := by rfl) (hks : (backToKw pos (keywordEach kws X.env)).filterMap (·.1) = ks := by rfl) (hdb : (x == ("__debug__" : Str)) = false := by decide)
    (hpl : ((backTo pos (starEach [] X.env)).any (·.1) || (backToKw pos (keywordEach kws X.env)).any (·.1.isNone)) = false := by rfl) : PE X (.Call (.Name x p) [] kws pos) (tMakeK0S C ks.length sp gV E tk) := by
  refine ⟨fun pins s σ H Q I h => wpAny_Call_Name_kw (ld_glob I hg hm ?_ hdb)⟩
  refine PySem.W.callWith_KW0 (h₀ := X.base) I.ok.mod.kin M.kp hall ?_ hpl
  refine thn (hkw.run pos pins s σ H _ I h) fun ws s2 ⟨zs, H2, I2, rz, l2, q2⟩ => ⟨I2.kIn, ?_⟩
  rw [hks]
  have hq := q2 (s2.heap.objs.size + 1) s2.heap.objs.size (I2.hok.fresh (Nat.le_succ _)) (I2.hok.fresh (Nat.le_refl _)) (Nat.ne_of_lt (Nat.lt_succ_self _))
  have I3 := Inv.made (C := C) I2
  have r1 : Vals [V.ref (s2.heap.objs.size + 1)] [Value.ref (s2.heap.objs.size + 1)] := .cons rfl .nil
  have r2 := hb.rel r1 rz
  refine wpAny_call (make_map (f := f) I2.kIn M.makes M.init (beq_iff_eq.mp M.fn) (codeAny_mono (F.run _ X.stack _ _ ⟨[Value.ref (s2.heap.objs.size + 1)], ks.zip ws⟩ (g [Value.ref (s2.heap.objs.size + 1)] ws) _ _ (E σ) (hr.make C [] (ks.zip ws))
    (I3.env0.make C [] (ks.zip ws)) (hb.to _ [Value.ref (s2.heap.objs.size + 1)] ws I3.kIn rfl (rz.length.symm.trans l2)) r2 hq) fun r s' hq' => ?_))
  match r, hq' with
  | .error e, hq' => exact hx σ pins _ _ e s' I3 hq'
  | .ok (.ret u), hq' =>
    obtain ⟨v, H', I4, rv, ev, q3⟩ := I3.after hq'
    subst ev
    exact ⟨rv, ⟨V.ref (s2.heap.objs.size + 1), H', I4, rfl, q3⟩⟩
  | .ok .next, hq' => exact False.elim hq'
  | .ok .brk, hq' => exact False.elim hq'
  | .ok .cont, hq' => exact False.elim hq'
end
end WH
namespace WH
open PySem PySem.Spec PyProof.Rows L2
def topS (i : Nat) : Stmt := PySem.Challenge.pw_wordhulls_k03_errors_of_stocks.main.body.getD i (.Pass ⟨0, 0, 0, 0⟩)
abbrev sEInit : Stmt := inClass (topS 1) 0
abbrev sIsLetters : Stmt := topS 14
abbrev sIsWord : Stmt := topS 15
abbrev sSInit : Stmt := inClass (topS 18) 0
abbrev sSEq : Stmt := inClass (topS 18) 1
abbrev sSWords : Stmt := inClass (topS 18) 2
abbrev sCheckWords : Stmt := topS 19
abbrev sWith : Stmt := topS 20
abbrev sWithout : Stmt := topS 21
abbrev sPool : Stmt := topS 23
abbrev sDraw : Stmt := topS 24
abbrev sWord : Stmt := topS 25
abbrev sLot : Stmt := topS 26
abbrev sFlagged : Stmt := topS 27
abbrev sCaught : Stmt := topS 28
abbrev sFault : Stmt := topS 29
abbrev sOdd : Stmt := topS 30
abbrev sFits : Stmt := topS 31
abbrev sLaw : Stmt := topS 32
section
variable {P : Program} {w : World} {K : PySem.W.Frag} {mg : Str → Option Value} {base : Heap}
theorem scIsLetters : FnScope ["text", "sign"] ["text"] (defScope sIsLetters) := ⟨rfl, rfl, rfl, by decide +kernel, rfl, by decide +kernel, by decide +kernel⟩
def spIsLetters : Sp := fun vs H Q _ => ∃ z : Str, vs = [.str z] ∧ z.length ≤ 100000 ∧ ∀ H', Same H H' → Q (.bl (isL z)) H'
theorem ok_isLetters {f : Addr} {fd : FuncData} {k : Nat} (F : Fun K "is_letters" "is_letters" sIsLetters f fd) (mL : mg "LETTERS" = some (.str LET t)) (ma : mg "all" = none) : FnOk P w K mg base CX0 (k + 1) f fd ["text"] spIsLetters := by
  refine F.ok scIsLetters (fun vs H Q E h => ?_) (fun cdv A outer s H vs Q E hr h => ?_)
  · obtain ⟨z, rfl, _⟩ := h
    rfl
  · obtain ⟨z, rfl, hz, q⟩ := h
    refine ⟨_, pss_one (ps_ret (pe_callB (cr_all rfl) (by rfl) ma (by decide +kernel) (pa_cons
      (pe_lc (own := [("sign", 1)]) (g := gName 1) (tt := tYes) rfl scIsLetters.nd (pi_str (pv 0)) (blkOk_by (N := ["text", "sign"]) (sc := defScope sIsLetters) (by decide +kernel))
        (fun _ _ _ _ _ => pg_name (i := 1) scIsLetters.nd rfl (Or.inl rfl)) (fun _ _ _ _ _ => pts_nil)
        (fun _ _ _ _ _ => pe_cmpR op_in_sign (pv 1) (pe_glob (v := .str LET) rfl mL ⟨_, rfl⟩) rfl)) pa_nil))), ?_⟩
    refine ⟨.str z, rfl, z, rfl, fun D hD => ?_⟩
    refine lc_fm walk_str (fun i => some (.bl (decide (z.cps.getD i 0 ∈ LET.cps.toList)))) (Nat.lt_of_le_of_lt hz (by decide)) hD (fun _ _ => trivial) ?_ ?_
    · rintro i x H1 H2 N hi s1 ⟨rfl, c, hc, rfl⟩ hN
      refine ⟨rfl, ?_⟩
      refine yesT ?_
      refine ⟨_, rfl, c, LET, rfl, rfl, ?_⟩
      rw [← getD_at hi hc]
      exact hN _ (Same.refl _)
    · intro H1 s1 h1
      rw [fmr_isL] at h1
      refine ⟨D, _, rfl, SqL.of h1, ?_⟩
      rw [all_isL]
      exact q _ s1

theorem scIsWord : FnScope ["text"] ["text"] (defScope sIsWord) := ⟨rfl, rfl, rfl, by decide +kernel, rfl, by decide +kernel, by decide +kernel⟩
def spIsWord : Sp := fun vs H Q _ => ∃ z : Str, vs = [.str z] ∧ z.length ≤ 100000 ∧ ∀ H', Same H H' → Q (.bl (isW z)) H'
theorem ok_isWord {f fL : Addr} {fd fdL : FuncData} {k : Nat} {t : Tok} (F : Fun K "is_word" "is_word" sIsWord f fd) (G : FnOk P w K mg base CX0 k fL fdL ["text"] spIsLetters) (bL : Binds K fdL ["text"] []) (kL : PySem.W.keepIn K (.ref fL) = true) (gL : mg "is_letters" = some (.ref fL))
    (mM : mg "MOST_LETTERS" = some (.int 8 t)) (ml : mg "len" = none) : FnOk P w K mg base CX0 (k + 1) f fd ["text"] spIsWord := by
  refine F.ok scIsWord (fun vs H Q E h => ?_) (fun cdv A outer s H vs Q E hr h => ?_)
  · obtain ⟨z, rfl, _⟩ := h
    rfl
  · obtain ⟨z, rfl, hz, q⟩ := h
    have hs : z.length ≤ sizeLine := Nat.le_trans hz (by decide)
    refine ⟨_, pss_one (ps_ret (pe_and (pe_chain op_le op_le pe_int (pe_callB call_len_str (by rfl) ml PySem.boot_len (pa_cons (pv 0) pa_nil)) (pe_glob (v := .int 8) rfl mM ⟨_, rfl⟩))
      (pe_one (pe_call G hr (by rfl) gL kL bL .nil pass0 (pa_cons (pv 0) pa_nil))))), ?_⟩
    refine ⟨_, rfl, z, rfl, hs, _, _, rfl, rfl, _, rfl, ?_⟩
    by_cases h1 : (1 : Int) ≤ (z.length : Int)
    · rw [decide_eq_true h1]
      refine iteT ?_
      refine ⟨_, _, rfl, rfl, _, rfl, ?_⟩
      by_cases h2 : (z.length : Int) ≤ 8
      · rw [decide_eq_true h2]
        refine iteT ?_
        refine ⟨_, rfl, z, rfl, hz, fun H' s' => ?_⟩
        have e : isW z = isL z := by
          unfold isW
          rw [decide_eq_true (show 1 ≤ z.length by omega), decide_eq_true (show z.length ≤ 8 by omega)]
          rfl
        rw [← e]
        exact q _ s'
      · rw [decide_eq_false h2]
        refine iteF ?_
        have e : isW z = false := by
          unfold isW
          rw [decide_eq_false (show ¬ z.length ≤ 8 by omega)]
          simp
        rw [← e]
        exact q _ (Same.refl _)
    · rw [decide_eq_false h1]
      refine iteF ?_
      refine ⟨_, rfl, iteF ?_⟩
      have e : isW z = false := by
        unfold isW
        rw [decide_eq_false (show ¬ 1 ≤ z.length by omega)]
        simp
      rw [← e]
      exact q _ (Same.refl _)
/-- a stock's words -/
structure Good (ws : List Str) : Prop where
  w : ∀ x ∈ ws, isW x = true
  nd : ws.Nodup
  lo : 1 ≤ ws.length
  hi : ws.length ≤ 8
theorem isW_len {x : Str} (h : isW x = true) : 1 ≤ x.length ∧ x.length ≤ 8 := by
  unfold isW at h
  simp only [Bool.and_eq_true, decide_eq_true_eq] at h
  exact h.1
theorem map_at {ws : List Str} {i : Nat} {y : V} (h : (ws.map V.str)[i]? = some y) : ∃ x, ws[i]? = some x ∧ y = .str x := by
  rw [List.getElem?_map] at h
  cases e : ws[i]? with
  | none =>
    rw [e] at h
    cases h
  | some x =>
    rw [e] at h
    exact ⟨x, rfl, (Option.some.inj h).symm⟩
theorem take_snoc {α : Type} {l : List α} {i : Nat} {x : α} (h : l[i]? = some x) : l.take (i + 1) = l.take i ++ [x] := by
  rw [List.take_add_one, h]
  rfl
theorem nd_notin {ws : List Str} {i : Nat} {x : Str} (nd : ws.Nodup) (h : ws[i]? = some x) : x ∉ ws.take i := by
  intro hm
  obtain ⟨j, hj⟩ := List.mem_iff_getElem?.mp hm
  have hji : j < i := by
    have := (List.getElem?_eq_some_iff.mp hj).1
    rw [List.length_take] at this
    omega
  rw [List.getElem?_take_of_lt hji] at hj
  obtain ⟨h1, e1⟩ := List.getElem?_eq_some_iff.mp hj
  obtain ⟨h2, e2⟩ := List.getElem?_eq_some_iff.mp h
  have e3 : ws[j] ≠ ws[i] := List.pairwise_iff_getElem.mp nd j i h1 h2 hji
  exact e3 (e1.trans e2.symm)
theorem scCheckWords : FnScope ["words", "seen", "word"] ["words"] (defScope sCheckWords) := ⟨rfl, rfl, rfl, by decide +kernel, rfl, by decide +kernel, by decide +kernel⟩
def spCheckWords (K : PySem.W.Frag) : Sp := fun vs H Q _ => ∃ (a : Addr) (ws : List Str), vs = [.ref a] ∧ SqL K H a (ws.map V.str) ∧ Good ws ∧ ∀ H', Same H H' → Q .non H'
theorem ok_checkWords {f fL : Addr} {fd fdL : FuncData} {k : Nat} {t : Tok} (F : Fun K "check_words" "check_words" sCheckWords f fd) (G : FnOk P w K mg base CX0 k fL fdL ["text"] spIsWord) (bL : Binds K fdL ["text"] []) (kL : PySem.W.keepIn K (.ref fL) = true) (gL : mg "is_word" = some (.ref fL))
    (mM : mg "MOST_WORDS" = some (.int 8 t)) (ml : mg "len" = none) (mset : mg "set" = none) : FnOk P w K mg base CX0 (k + 1) f fd ["words"] (spCheckWords K) := by
  refine F.ok scCheckWords (fun vs H Q E h => ?_) (fun cdv A outer s H vs Q E hr h => ?_)
  · obtain ⟨z, ws, rfl, _⟩ := h
    rfl
  · obtain ⟨a, ws, rfl, hS, g, q⟩ := h
    refine ⟨_, pss_cons (ps_set (i := 1) scCheckWords.nd rfl (Or.inl rfl) (pe_callTy0 cr_set0K (by rfl) mset (by decide +kernel)))
      (pss_cons (ps_for PassesOwn.never rfl (pi_list (pv 0)) (pg_name (i := 2) scCheckWords.nd rfl (Or.inl rfl))
        (pss_cons (ps_if (PW.pt (pw_or (pt_not (pt_val (pe_call G hr (by rfl) gL kL bL .nil pass0 (pa_cons (pv 2) pa_nil)))) (pw_or1 (pt_cmpR or_sinK (pv 2) (pv 1) rfl)))) (pss_one ps_never) pss_nil)
          (pss_one (ps_expr (pe_saddK (pv 1) (pa_cons (pv 2) pa_nil))))))
      (pss_one (ps_if (pt_not (pt_chain op_le op_le pe_int (pe_callB call_len_seq (by rfl) ml PySem.boot_len (pa_cons (pv 0) pa_nil)) (pe_glob (v := .int 8) rfl mM ⟨_, rfl⟩))) (pss_one ps_never) pss_nil))), ?_⟩
    refine ⟨rfl, fun p np => ?_⟩
    have s1 : Same H (upd H p (SetK P w p (fun _ => false) 0)) := same_upd np
    refine ⟨_, rfl, a, rfl, ⟨_, s1.seq hS⟩, for_list (K := K) (a := a) (xs := ws.map V.str) (fun i σ H2 => ∃ (v : Option V) (S : Key → Bool) (n : Nat), σ = [some (.ref a), some (.ref p), v] ∧ Same H H2 ∧ H2 p = some (SetK P w p S n) ∧ n ≤ i ∧ ∀ x, S (.inr x) = decide (x ∈ ws.take i))
      ⟨none, fun _ => false, 0, rfl, s1, upd_same, Nat.le_refl _, fun x => by simp⟩ (fun i σ H2 _ ⟨_, _, _, _, s2, _⟩ => s2.seq hS) ?_ ?_⟩
    · rintro i y σ H2 hi ⟨v, S, n, rfl, s2, hp, hn, hSx⟩
      obtain ⟨x, hx, rfl⟩ := map_at hi
      have hil : i < ws.length := (List.getElem?_eq_some_iff.mp hx).1
      have hw := g.w x (List.mem_of_getElem? hx)
      have h8 := g.hi
      refine ⟨_, rfl, x, rfl, Nat.le_trans (isW_len hw).2 (by decide), fun H3 s3 => ⟨_, rfl, ?_⟩⟩
      rw [hw]
      refine iteF ?_
      have hp3 := s3 _ _ hp
      refine ⟨_, rfl, _, rfl, Sum.inr x, p, S, n, rfl, rfl, hp3, _, rfl, ?_⟩
      have hf : S (.inr x) = false := by
        rw [hSx]
        exact decide_eq_false (nd_notin g.nd hx)
      rw [if_neg Bool.false_ne_true, hf]
      refine iteF ?_
      refine ⟨_, rfl, ⟨p, S, n, rfl, hp3⟩, _, rfl, p, Sum.inr x, S, n, rfl, rfl, hp3, Nat.lt_of_lt_of_le (show n + 1 < 100 by omega) (by decide), ?_⟩
      refine ⟨_, _, _, rfl, same_set (s2.trans s3) np, upd_same, ?_, fun y => ?_⟩
      · rw [hf]
        simp
        omega
      · rw [take_snoc hx, hSx]
        simp
    · rintro σ H2 ⟨v, S, n, rfl, s2, _⟩
      have g1 := g.lo
      have g8 := g.hi
      refine ⟨_, rfl, a, _, rfl, .inl (s2.seq hS), _, _, rfl, rfl, _, rfl, ?_⟩
      rw [decide_eq_true (show (1 : Int) ≤ ((ws.map V.str).length : Nat) by rw [List.length_map]; omega)]
      refine iteT ?_
      refine ⟨_, _, rfl, rfl, _, rfl, ?_⟩
      rw [decide_eq_true (show (((ws.map V.str).length : Nat) : Int) ≤ 8 by rw [List.length_map]; omega)]
      refine iteF ?_
      exact q _ s2

/-! ### stocks -/
def fW (t : Addr) : List (Str × V) := putF "_words" (.ref t) []
theorem fW_get (t : Addr) : (fW t).lookup ("_words" : Str) = some (.ref t) := by
  unfold fW
  rw [lookup_putF, if_pos rfl]
def StkAt (C : Addr) (H : Hp) (p : Addr) (ws : List Str) : Prop := ∃ dx t, H p = some (.ins C dx (fW t)) ∧ H t = some (.tup (ws.map V.str))
theorem StkAt.same {C : Addr} {H H' : Hp} {p : Addr} {ws : List Str} (h : StkAt C H p ws) (s : Same H H') : StkAt C H' p ws := by
  obtain ⟨dx, t, h1, h2⟩ := h
  exact ⟨dx, t, s _ _ h1, s _ _ h2⟩
structure StkC (K : PySem.W.Frag) (mg : Str → Option Value) (C fi fe fw : Addr) : Prop where
  cl : Cls K C
  nW : NoAttr K C "_words"
  mgC : mg "Stock" = some (.ref C)
  made : Mk K C fi
  eqc : EqCls K C fe
  prop : ∃ p, PropOf K C "words" p fw
  ha : PySem.W.findIn K (.ref C) "__class__" = some (some (.builtin "object.__class__"))
  hn : PySem.W.specialIn K (.builtin "object.__class__") "__get__" = some (some (.builtin "getset_descriptor.__get__"))
  htk : PySem.W.takesIn K (.builtin "object.__class__") = some true
  hm : PySem.W.mroIn K C (.type "object") = some true
  ki : PySem.W.kitOne K (.ref C) (.ref C) = some true
theorem StkC.ty {C fi fe fw p : Addr} {H : Hp} {ws : List Str} (T : StkC K mg C fi fe fw) (h : StkAt C H p ws) : TyX K H (.ref p) (.ref C) := by
  obtain ⟨dx, t, h1, _⟩ := h
  exact .base (.ins h1 T.cl T.ha T.hn T.htk T.hm)
theorem scSInit : FnScope ["self", "words"] ["self", "words"] (defScope sSInit) := ⟨rfl, rfl, rfl, by decide +kernel, rfl, by decide +kernel, by decide +kernel⟩
def spSInit (K : PySem.W.Frag) (C : Addr) : Sp := fun vs H Q _ => ∃ (p dx a : Addr) (ws : List Str), vs = [.ref p, .ref a] ∧ H p = some (.ins C dx []) ∧ SqL K H a (ws.map V.str) ∧ Good ws ∧
  ∀ H', StkAt C H' p ws → (∀ b o, H b = some o → b ≠ p → H' b = some o) → Q .non H'
theorem ok_sinit {f fL C fi fe fw : Addr} {fd fdL : FuncData} {k : Nat} (F : Fun K "__init__" "Stock.__init__" sSInit f fd) (T : StkC K mg C fi fe fw) (G : FnOk P w K mg base CX0 k fL fdL ["words"] (spCheckWords K)) (bL : Binds K fdL ["words"] []) (kL : PySem.W.keepIn K (.ref fL) = true) (gL : mg "check_words" = some (.ref fL))
    (mt : mg "tuple" = none) : FnOk P w K mg base CX0 (k + 1) f fd ["self", "words"] (spSInit K C) := by
  refine F.ok scSInit (fun vs H Q E h => ?_) (fun cdv A outer s H vs Q E hr h => ?_)
  · obtain ⟨p, dx, a, ws, rfl, _⟩ := h
    rfl
  · obtain ⟨p, dx, a, ws, rfl, hp, hS, g, q⟩ := h
    refine ⟨_, pss_cons (ps_expr (pe_call G hr (by rfl) gL kL bL .nil pass0 (pa_cons (pv 1) pa_nil)))
      (pss_one (ps_fld (pv 0) (pe_callTy call_tuple_of (by rfl) mt (by decide +kernel) (pa_cons (pv 1) pa_nil)) rfl)), ?_⟩
    refine ⟨_, rfl, a, ws, rfl, hS, g, fun H1 s1 => ?_⟩
    refine ⟨_, rfl, a, _, rfl, .inl ⟨s1.seq hS, fun l nl => ?_⟩⟩
    have npl : p ≠ l := ne_of_none (s1 _ _ hp) nl
    refine ⟨_, rfl, p, C, dx, [], rfl, (by rw [upd_ne npl]; exact s1 _ _ hp), T.cl, T.nW, (by show 0 < 1000; decide), ?_⟩
    refine q _ ⟨dx, l, upd_same, by rw [upd_ne npl.symm, upd_same]⟩ fun b o e hb => ?_
    rw [upd_ne hb]
    exact same_set s1 (s1.free nl) b o e
theorem scSEq : FnScope ["self", "other"] ["self", "other"] (defScope sSEq) := ⟨rfl, rfl, rfl, by decide +kernel, rfl, by decide +kernel, by decide +kernel⟩
def spSEq (C : Addr) : Sp := fun vs H Q _ => ∃ (p r : Addr) (ws zs : List Str), vs = [.ref p, .ref r] ∧ StkAt C H p ws ∧ StkAt C H r zs ∧ Good ws ∧ Good zs ∧ ∀ H', Same H H' → Q (.bl (decide (ws = zs))) H'
theorem Good.sok {ws : List Str} (g : Good ws) : SOk ws := fun x hx => sok_isW (g.w x hx)
theorem ok_seq {f C fi fe fw : Addr} {fd : FuncData} {k : Nat} (F : Fun K "__eq__" "Stock.__eq__" sSEq f fd) (T : StkC K mg C fi fe fw) (mi : mg "isinstance" = none) : FnOk P w K mg base CX0 (k + 1) f fd ["self", "other"] (spSEq C) := by
  refine F.ok scSEq (fun vs H Q E h => ?_) (fun cdv A outer s H vs Q E hr h => ?_)
  · obtain ⟨p, r, ws, zs, rfl, _⟩ := h
    rfl
  · obtain ⟨p, r, ws, zs, rfl, hp, hz, g1, g2, q⟩ := h
    have ty := T.ty hz
    obtain ⟨dx, t, h1, h2⟩ := hp
    obtain ⟨dz, u, h3, h4⟩ := hz
    refine ⟨_, pss_one (ps_ret (pe_and (pe_callB call_isi (by rfl) mi (by decide +kernel) (pa_cons (pv 1) (pa_cons (pe_glob (v := .ref C) rfl T.mgC rfl) pa_nil)))
      (pe_one (pe_cmpR (op_eqD hr.units) (pe_fld (pv 0) rfl) (pe_fld (pv 1) rfl) (nomark _))))), ?_⟩
    refine ⟨_, rfl, _, _, _, _, _, rfl, .own C, ty, T.ki, _, rfl, ?_⟩
    refine iteT ?_
    refine ⟨_, rfl, p, C, dx, _, _, rfl, h1, T.cl, T.nW, fW_get _, _, rfl, r, C, dz, _, _, rfl, h3, T.cl, T.nW, fW_get _, _, _, dp_tup (SqT.of h2), dp_tup (SqT.of h4), sh_tup g1.sok, sh_tup g2.sok, ?_⟩
    rw [eqv_tup]
    exact q _ (Same.refl _)
theorem scSWords : FnScope ["self"] ["self"] (defScope sSWords) := ⟨rfl, rfl, rfl, by decide +kernel, rfl, by decide +kernel, by decide +kernel⟩
def spSWords (C : Addr) : Sp := fun vs H Q _ => ∃ (p : Addr) (ws : List Str), vs = [.ref p] ∧ StkAt C H p ws ∧ ∀ l H', H l = none → Same H H' → H' l = some (.lst (ws.map V.str)) → Q (.ref l) H'
theorem ok_swords {f C fi fe fw : Addr} {fd : FuncData} {k : Nat} (F : Fun K "words" "Stock.words" sSWords f fd) (T : StkC K mg C fi fe fw) (ml : mg "list" = none) : FnOk P w K mg base CX0 (k + 1) f fd ["self"] (spSWords C) := by
  refine F.ok scSWords (fun vs H Q E h => ?_) (fun cdv A outer s H vs Q E hr h => ?_)
  · obtain ⟨p, ws, rfl, _⟩ := h
    rfl
  · obtain ⟨p, ws, rfl, ⟨dx, t, h1, h2⟩, q⟩ := h
    refine ⟨_, pss_one (ps_ret (pe_callTy call_list_of (by rfl) ml (by decide +kernel) (pa_cons (pe_fld (pv 0) rfl) pa_nil))), ?_⟩
    refine ⟨_, rfl, p, C, dx, _, _, rfl, h1, T.cl, T.nW, fW_get _, t, _, rfl, .inr (SqT.of h2), fun l nl => ?_⟩
    exact q l _ nl (same_upd nl) upd_same
/-- Stock(ws): for the reading of pe_make -/
theorem mk_stock {C a : Addr} {ws : List Str} {H : Hp} {Q : VK} {E : XK} (hS : SqL K H a (ws.map V.str)) (g : Good ws) (q : ∀ x H', H x = none → Same H H' → StkAt C H' x ws → Q (.ref x) H') :
    ∀ x dx, H x = none → H dx = none → dx ≠ x → spSInit K C (.ref x :: ([.ref a] ++ [])) (upd (upd H dx (.own x)) x (.ins C dx [])) (fun v H2 => v = .non ∧ Q (.ref x) H2) E := by
  intro x dx nx ndx nex
  have s0 : Same H (upd (upd H dx (.own x)) x (.ins C dx [])) := same_set (same_upd ndx) nx
  exact ⟨x, dx, a, ws, rfl, upd_same, s0.seq hS, g, fun H' st kp => ⟨rfl, q x H' nx (fun b o e => kp b o (s0 b o e) (ne_of_none e nx)) st⟩⟩
end

def SameBut (p : Addr) (H H' : Hp) : Prop := ∀ b o, b ≠ p → H b = some o → H' b = some o
theorem SameBut.refl {p : Addr} {H : Hp} : SameBut p H H := fun _ _ _ h => h
theorem SameBut.trans {p : Addr} {H H1 H2 : Hp} (a : SameBut p H H1) (b : SameBut p H1 H2) : SameBut p H H2 := fun c o n h => b c o n (a c o n h)
theorem SameBut.free {p l : Addr} {H H' : Hp} (s : SameBut p H H') (n : l ≠ p) (h : H' l = none) : H l = none := by
  cases q : H l with
  | none => rfl
  | some o =>
    rw [s l o n q] at h
    cases h
theorem Same.but {p : Addr} {H H' : Hp} (s : Same H H') : SameBut p H H' := fun b o _ h => s b o h
/-- what is at the pool: three numbers, at most n drawn ones -/
def PoolAt (H : Hp) (p : Addr) (n : Int) : Prop := ∃ p0 p1 p2 : Int, H p = some (.lst [.int p0, .int p1, .int p2]) ∧ 0 ≤ p0 ∧ 0 ≤ p1 ∧ p1 < 4611686018427387904 ∧ 0 ≤ p2 ∧ p2 ≤ n
theorem PoolAt.same {H H' : Hp} {p : Addr} {n : Int} (h : PoolAt H p n) (s : Same H H') : PoolAt H' p n := by
  obtain ⟨a, b, c, h1, h2⟩ := h
  exact ⟨a, b, c, s _ _ h1, h2⟩
theorem PoolAt.le {H : Hp} {p : Addr} {n m : Int} (h : PoolAt H p n) (l : n ≤ m) : PoolAt H p m := by
  obtain ⟨a, b, c, h1, h2, h3, h4, h5, h6⟩ := h
  exact ⟨a, b, c, h1, h2, h3, h4, h5, by omega⟩
theorem atI_int {α : Type} {xs : List α} {e : Int} (h0 : 0 ≤ e) (h : e.toNat < xs.length) : atI xs e = some xs[e.toNat] := by
  have e1 : (e.toNat : Int) = e := by omega
  have := atI_nat (List.getElem?_eq_getElem h)
  rwa [e1] at this
theorem at0 {x y z : V} : atI [x, y, z] 0 = some x := atI_nat (j := 0) rfl
theorem at1 {x y z : V} : atI [x, y, z] 1 = some y := atI_nat (j := 1) rfl
theorem at2 {x y z : V} : atI [x, y, z] 2 = some z := atI_nat (j := 2) rfl
section
variable {P : Program} {w : World} {K : PySem.W.Frag} {mg : Str → Option Value} {base : Heap}
theorem scPool : FnScope ["script", "spot", "cell"] ["script", "spot"] (defScope sPool) := ⟨rfl, rfl, rfl, by decide +kernel, rfl, by decide +kernel, by decide +kernel⟩
def spPool (K : PySem.W.Frag) : Sp := fun vs H Q _ => ∃ (a : Addr) (ns : List Int) (i : Nat), vs = [.ref a, .int i] ∧ SqL K H a (ns.map V.int) ∧ i ≤ 100 ∧ ∀ p H', H p = none → Same H H' → PoolAt H' p 0 → Q (.ref p) H'
structure Bu (mg : Str → Option Value) : Prop where
  len : mg "len" = none
  max : mg "max" = none
  min : mg "min" = none
  abs : mg "abs" = none
  int : mg "int" = none
  range : mg "range" = none
theorem pool_num {x : Int} {i : Nat} (hi : i ≤ 100) : 0 ≤ x.fmod 2305843009213693951 + 7368787 * ((i : Int) + 1) ∧ x.fmod 2305843009213693951 + 7368787 * ((i : Int) + 1) < 4611686018427387904 := by
  rw [Int.fmod_eq_emod_of_nonneg _ (by decide)]
  have h1 := Int.emod_nonneg x (show (2305843009213693951 : Int) ≠ 0 by decide)
  have h2 := Int.emod_lt_of_pos x (show (0 : Int) < 2305843009213693951 by decide)
  omega
theorem ok_pool {f : Addr} {fd : FuncData} {k : Nat} (F : Fun K "_law_pool" "_law_pool" sPool f fd) (B : Bu mg) : FnOk P w K mg base CX0 (k + 1) f fd ["script", "spot"] (spPool K) := by
  refine F.ok scPool (fun vs H Q E h => ?_) (fun cdv A outer s H vs Q E hr h => ?_)
  · obtain ⟨a, ns, i, rfl, _⟩ := h
    rfl
  · obtain ⟨a, ns, i, rfl, hS, hi, q⟩ := h
    refine ⟨_, pss_cons (ps_set (i := 2) scPool.nd rfl (Or.inl rfl) pe_int)
      (pss_cons (ps_if (pt_cmpR op_lt (pv 1) (pe_callB call_len_seq (by rfl) B.len PySem.boot_len (pa_cons (pv 0) pa_nil)) (nomark _))
        (pss_one (ps_set (i := 2) scPool.nd rfl (Or.inl rfl) (pe_ix ix_list (pv 0) (pv 1) (fun _ _ => rfl)))) pss_nil)
      (pss_one (ps_ret (pe_lst (pa_cons (pe_callB (call_max2 rfl) (by rfl) B.max (by decide +kernel) (pa_cons pe_int (pa_cons (pe_op op_sub (pe_callB call_abs (by rfl) B.abs (by decide +kernel) (pa_cons (pv 2) pa_nil)) (pe_op op_pow pe_int pe_int)) pa_nil)))
        (pa_cons (pe_op op_add (pe_op op_modN (pe_callTy call_int1 (by rfl) B.int (by decide +kernel) (pa_cons (pv 2) pa_nil)) pe_int) (pe_op op_mul pe_int (pe_op op_add (pv 1) pe_int)))
        (pa_cons pe_int pa_nil))))))), ?_⟩
    have fin : ∀ x : Int, ∀ (p : Addr), H p = none → Q (.ref p) (upd H p (.lst [.int (if (if x < 0 then -x else x) - 10 ^ (18 : Int).toNat > 0 then (if x < 0 then -x else x) - 10 ^ (18 : Int).toNat else 0), .int (x.fmod 2305843009213693951 + 7368787 * ((i : Int) + 1)), .int 0])) := by
      intro x p np
      have h := pool_num (x := x) hi
      refine q p _ np (same_upd np) ⟨_, _, _, upd_same, ?_, h.1, h.2, by omega, by omega⟩
      split <;> omega
    refine ⟨_, rfl, _, rfl, a, _, rfl, .inl hS, _, _, rfl, rfl, _, rfl, ?_⟩
    by_cases c : (i : Int) < ((ns.map V.int).length : Nat)
    · rw [decide_eq_true c]
      refine iteT ?_
      have hl : i < ns.length := by
        rw [List.length_map] at c
        omega
      refine ⟨_, rfl, _, rfl, a, _, _, .int ns[i], rfl, rfl, hS, atI_nat (by simp [hl]), ?_⟩
      refine ⟨_, rfl, _, rfl, _, _, rfl, rfl, ⟨by decide, by decide, by decide⟩, _, _, rfl, rfl, _, _, rfl, ?_⟩
      exact ⟨_, rfl, .inl ⟨_, rfl, _, _, rfl, rfl, (show (2305843009213693951 : Int) ≠ 0 by decide), _, rfl, _, _, rfl, rfl, _, _, rfl, rfl, .inl ⟨by decide, by decide⟩, _, _, rfl, rfl, (by show 3 ≤ sizeLine; decide), fun p np => fin _ p np⟩⟩
    · rw [decide_eq_false c]
      refine iteF ?_
      refine ⟨_, rfl, _, rfl, _, _, rfl, rfl, ⟨by decide, by decide, by decide⟩, _, _, rfl, rfl, _, _, rfl, ?_⟩
      exact ⟨_, rfl, .inl ⟨_, rfl, _, _, rfl, rfl, (show (2305843009213693951 : Int) ≠ 0 by decide), _, rfl, _, _, rfl, rfl, _, _, rfl, rfl, .inl ⟨by decide, by decide⟩, _, _, rfl, rfl, (by show 3 ≤ sizeLine; decide), fun p np => fin _ p np⟩⟩
theorem scDraw : FnScope ["pool", "span", "drawn", "mixed"] ["pool", "span"] (defScope sDraw) := ⟨rfl, rfl, rfl, by decide +kernel, rfl, by decide +kernel, by decide +kernel⟩
def spDraw : Sp := fun vs H Q _ => ∃ (p : Addr) (k n : Int), vs = [.ref p, .int k] ∧ PoolAt H p n ∧ n < 1000000 ∧ 0 < k ∧ k < 1606938044258990275541962092341162602522202993782792835301376 ∧
  ∀ (d : Int) H', 0 ≤ d → d < k → PoolAt H' p (n + 1) → SameBut p H H' → Q (.int d) H'
theorem fm_lo {x k : Int} (h : 0 < k) : 0 ≤ x.fmod k := by
  rw [Int.fmod_eq_emod_of_nonneg _ (by omega)]
  exact Int.emod_nonneg x (by omega)
theorem fm_hi {x k : Int} (h : 0 < k) : x.fmod k < k := by
  rw [Int.fmod_eq_emod_of_nonneg _ (by omega)]
  exact Int.emod_lt_of_pos x h
theorem but_upd {H : Hp} {p : Addr} {o : HO} : SameBut p H (upd H p o) := fun b x n h => by
  rw [upd_ne n]
  exact h
theorem ok_draw {f : Addr} {fd : FuncData} {k : Nat} (F : Fun K "_law_draw" "_law_draw" sDraw f fd) (B : Bu mg) : FnOk P w K mg base CX0 (k + 1) f fd ["pool", "span"] spDraw := by
  refine F.ok scDraw (fun vs H Q E h => ?_) (fun cdv A outer s H vs Q E hr h => ?_)
  · obtain ⟨p, k, n, rfl, _⟩ := h
    rfl
  · obtain ⟨p, k, n, rfl, ⟨p0, p1, p2, hp, h0, h1, h1', h2, h2'⟩, hn, hk, hk', q⟩ := h
    have L0 : SqL K H p [.int p0, .int p1, .int p2] := SqL.of hp
    refine ⟨_, pss_cons (ps_if (pt_cmpR op_gt (pe_ix ix_list (pv 0) pe_int (fun _ _ => rfl)) pe_int (nomark _))
        (pss_cons (ps_set (i := 2) scDraw.nd rfl (Or.inl rfl) (pe_op op_modN (pe_callTy call_int1 (by rfl) B.int (by decide +kernel) (pa_cons (pe_ix ix_list (pv 0) pe_int (fun _ _ => rfl)) pa_nil)) (pv 1)))
        (pss_cons (ps_asg (pe_op op_fdivW (pe_ix ix_list (pv 0) pe_int (fun _ _ => rfl)) (pv 1)) (pg_sub (pv 0) pe_int set_list))
        (pss_one (ps_ret (pv 2))))) pss_nil)
      (pss_cons (ps_asg (pe_op op_add (pe_ix ix_list (pv 0) pe_int (fun _ _ => rfl)) pe_int) (pg_sub (pv 0) pe_int set_list))
      (pss_cons (ps_set (i := 3) scDraw.nd rfl (Or.inl rfl) (pe_op op_modN (pe_callTy call_int1 (by rfl) B.int (by decide +kernel) (pa_cons (pe_op op_powW (pe_op op_add (pe_ix ix_list (pv 0) pe_int (fun _ _ => rfl)) (pe_op op_mul pe_int (pe_ix ix_list (pv 0) pe_int (fun _ _ => rfl)))) pe_int) pa_nil)) pe_int))
      (pss_cons (ps_set (i := 3) scDraw.nd rfl (Or.inl rfl) (pe_op op_modN (pe_callTy call_int1 (by rfl) B.int (by decide +kernel) (pa_cons (pe_op op_powW (pe_op op_add (pv 3) (pe_op op_mul pe_int (pe_ix ix_list (pv 0) pe_int (fun _ _ => rfl)))) pe_int) pa_nil)) pe_int))
      (pss_one (ps_ret (pe_op op_modN (pe_callTy call_int1 (by rfl) B.int (by decide +kernel) (pa_cons (pe_op op_fdivN (pv 3) pe_int) pa_nil)) (pv 1))))))), ?_⟩
    refine ⟨_, rfl, p, _, _, _, rfl, rfl, L0, at0, _, _, rfl, rfl, _, rfl, ?_⟩
    by_cases c : (0 : Int) < p0
    · rw [decide_eq_true c]
      refine iteT ?_
      refine ⟨_, rfl, p, _, _, _, rfl, rfl, L0, at0, .inl ⟨_, rfl, _, rfl, _, _, rfl, rfl, (by omega), ?_⟩⟩
      refine ⟨_, rfl, p, _, _, _, rfl, rfl, L0, at0, _, rfl, _, _, rfl, rfl, ⟨hk, ?_⟩, ?_⟩
      · exact Nat.lt_of_lt_of_le (PySem.Flt.log2_lt_of (k := 200) (by decide) (by omega)) (by decide)
      refine ⟨_, rfl, p, _, _, 0, rfl, rfl, hp, rfl, ?_⟩
      refine ⟨_, rfl, q _ _ (fm_lo hk) (fm_hi hk) ⟨_, _, _, upd_same, ?_, h1, h1', h2, by omega⟩ but_upd⟩
      exact Int.ediv_nonneg h0 (by omega)
    · rw [decide_eq_false c]
      refine iteF ?_
      refine ⟨_, rfl, p, _, _, _, rfl, rfl, L0, at2, _, _, rfl, rfl, _, rfl, p, _, _, 2, rfl, rfl, hp, rfl, ?_⟩
      have L1 : SqL K (upd H p (.lst [.int p0, .int p1, .int (p2 + 1)])) p [.int p0, .int p1, .int (p2 + 1)] := SqL.of upd_same
      refine ⟨_, rfl, p, _, _, _, rfl, rfl, L1, at1, _, rfl, p, _, _, _, rfl, rfl, L1, at2, _, _, rfl, rfl, .inl ⟨by decide, by decide⟩, _, _, rfl, rfl, _, _, rfl, rfl, ⟨by decide, by decide, ?_⟩, ?_⟩
      · exact log2_small (n := 100) (by omega) (by omega) (by decide) (by decide)
      refine .inl ⟨_, rfl, _, _, rfl, rfl, (show (162259276829213363391578010288127 : Int) ≠ 0 by decide), ?_⟩
      have m0 : 0 ≤ ((p1 + 15485863 * (p2 + 1)) ^ (3 : Int).toNat).fmod 162259276829213363391578010288127 := fm_lo (by decide)
      have m1 : ((p1 + 15485863 * (p2 + 1)) ^ (3 : Int).toNat).fmod 162259276829213363391578010288127 < 162259276829213363391578010288127 := fm_hi (by decide)
      refine ⟨_, rfl, _, rfl, p, _, _, _, rfl, rfl, L1, at2, _, _, rfl, rfl, .inl ⟨by decide, by decide⟩, _, _, rfl, rfl, _, _, rfl, rfl, ⟨by decide, by decide, ?_⟩, ?_⟩
      · exact log2_small (n := 200) (by omega) (by omega) (by decide) (by decide)
      refine .inl ⟨_, rfl, _, _, rfl, rfl, (show (170141183460469231731687303715884105727 : Int) ≠ 0 by decide), ?_⟩
      refine ⟨_, rfl, _, _, rfl, rfl, ⟨by decide, by decide⟩, .inl ⟨_, rfl, _, rfl, _, _, rfl, rfl, (by omega), ?_⟩⟩
      exact q _ _ (fm_lo hk) (fm_hi hk) ⟨_, _, _, upd_same, h0, h1, h1', by omega, by omega⟩ but_upd
theorem scWord : FnScope ["pool", "widest", "signs", "turn"] ["pool", "widest", "signs"] (defScope sWord) := ⟨rfl, rfl, rfl, by decide +kernel, rfl, by decide +kernel, by decide +kernel⟩
def spWord : Sp := fun vs H Q _ => ∃ (p : Addr) (wd n : Int) (sg : Str), vs = [.ref p, .int wd, .str sg] ∧ PoolAt H p n ∧ n < 900000 ∧ 0 < wd ∧ wd ≤ 20 ∧ 0 < sg.length ∧ sg.length ≤ 100 ∧
  ∀ (z : Str) H', 1 ≤ z.length → (z.length : Int) ≤ wd → (∀ c ∈ z.cps.toList, c ∈ sg.cps.toList) → PoolAt H' p (n + 21) → SameBut p H H' → Q (.str z) H'
theorem ok_word {f fd' : Addr} {fd fdd : FuncData} {k : Nat} (F : Fun K "_law_word" "_law_word" sWord f fd) (B : Bu mg) (G : FnOk P w K mg base CX0 k fd' fdd ["pool", "span"] spDraw) (bD : Binds K fdd ["pool", "span"] []) (kD : PySem.W.keepIn K (.ref fd') = true) (gD : mg "_law_draw" = some (.ref fd')) :
    FnOk P w K mg base CX0 (k + 1) f fd ["pool", "widest", "signs"] spWord := by
  refine F.ok scWord (fun vs H Q E h => ?_) (fun cdv A outer s H vs Q E hr h => ?_)
  · obtain ⟨p, wd, n, sg, rfl, _⟩ := h
    rfl
  · obtain ⟨p, wd, n, sg, rfl, hp, hn, hw, hw', hs, hs', q⟩ := h
    refine ⟨_, pss_one (ps_ret (pe_join pe_str (pe_lc (own := [("turn", 3)]) (g := gName 3) (tt := tYes) rfl scWord.nd (pi_range1 (by rfl) B.range (pa_cons (pe_op op_add pe_int (pe_call G hr (by rfl) gD kD bD .nil pass0 (pa_cons (pv 0) (pa_cons (pv 1) pa_nil)))) pa_nil))
      (blkOk_by (N := ["pool", "widest", "signs", "turn"]) (sc := defScope sWord) (by decide +kernel)) (fun _ _ _ _ _ => pg_name (i := 3) scWord.nd rfl (Or.inl rfl)) (fun _ _ _ _ _ => pts_nil)
      (fun _ _ _ _ _ => pe_ix ix_str (pv 2) (pe_call G hr (by rfl) gD kD bD .nil pass0 (pa_cons (pv 0) (pa_cons (pe_callB call_len_str (by rfl) B.len PySem.boot_len (pa_cons (pv 2) pa_nil)) pa_nil))) (fun _ _ => rfl))))), ?_⟩
    refine ⟨⟨_, rfl⟩, _, rfl, _, rfl, p, wd, n, rfl, hp, by omega, hw, by omega, fun d H1 d0 d1 hp1 b1 => ?_⟩
    refine ⟨_, _, rfl, rfl, _, rfl, by omega, by omega, fun D hD => ?_⟩
    have npD : p ≠ D := by
      obtain ⟨_, _, _, e, _⟩ := hp1
      exact ne_of_none e hD
    have hm : (1 + d).toNat ≤ 20 := by omega
    refine lc_it walk_range (fun i H2 => ∃ us : List Str, us.length = i ∧ H2 D = some (.lst (us.map V.str)) ∧ (∀ u ∈ us, ∃ c ∈ sg.cps.toList, u = ⟨#[c]⟩) ∧ PoolAt H2 p (n + 1 + i) ∧ SameBut p H H2)
      ⟨[], rfl, upd_same, fun u hu => by simp at hu, (hp1.same (same_upd hD)).le (by simp), b1.trans (Same.but (same_upd hD))⟩ (fun _ _ _ _ => trivial) ?_ ?_
    · rintro i x H2 H3 hi ⟨us, hl, hD2, hu, hp2, b2⟩ ⟨rfl, rfl⟩
      refine ⟨rfl, yesT ?_⟩
      refine ⟨_, rfl, _, rfl, _, rfl, sg, rfl, Nat.le_trans hs' (by decide), p, _, _, rfl, hp2, by omega, by omega, by omega, fun e H4 e0 e1 hp4 b4 => ?_⟩
      have hel : e.toNat < sg.cps.toList.length := by
        have : sg.length = sg.cps.toList.length := by simp [Str.length]
        omega
      have ee : (e.toNat : Int) = e := by omega
      refine ⟨sg, e, sg.cps.toList[e.toNat], rfl, rfl, Nat.le_trans hs' (by decide), ?_, ?_⟩
      · exact atI_int e0 hel
      · refine ⟨us.map V.str, b4 _ _ (Ne.symm npD) hD2, ?_, us ++ [⟨#[sg.cps.toList[e.toNat]]⟩], by simp [hl], ?_, ?_, ?_, ?_⟩
        · rw [List.length_map]
          exact Nat.lt_of_le_of_lt (show us.length ≤ 20 by omega) (by decide)
        · rw [upd_same]
          simp
        · intro u hm'
          rcases List.mem_append.mp hm' with h | h
          · exact hu u h
          · exact ⟨_, List.getElem_mem hel, by simpa using h⟩
        · obtain ⟨x0, x1, x2, y1, y2, y3, y4, y5, y6⟩ := hp4
          exact ⟨x0, x1, x2, by rw [upd_ne npD]; exact y1, y2, y3, y4, y5, by push_cast at y6 ⊢; omega⟩
        · intro b o nb hb
          have nbD : b ≠ D := by
            intro z
            subst z
            have := b1 _ _ nb hb
            rw [hD] at this
            cases this
          rw [upd_ne nbD]
          exact b4 _ _ nb (b2 _ _ nb hb)
    · rintro H2 ⟨us, hl, hD2, hu, hp2, b2⟩
      have h1 := sum_ones us fun u hm' => let ⟨c, _, e⟩ := hu u hm'; ⟨c, e⟩
      refine ⟨_, D, us, rfl, rfl, .inl (SqL.of hD2), ?_, ?_⟩
      · rw [h1]
        show us.length + us.length * 0 ≤ 16777216
        omega
      · rw [join_cat (by rfl)]
        have hlen : (catS us).length = us.length := by rw [catS_len, h1]
        refine q _ _ (by rw [hlen]; omega) (by rw [hlen]; omega) ?_ (hp2.le (by omega)) b2
        intro c hc
        rw [catS_list] at hc
        obtain ⟨l, hl', hc'⟩ := List.mem_flatten.mp hc
        obtain ⟨u, hu', rfl⟩ := List.mem_map.mp hl'
        obtain ⟨c', hm', rfl⟩ := hu u hu'
        simp at hc'
        subst hc'
        exact hm'
theorem scLot : FnScope ["pool", "many", "widest", "signs", "found", "turn", "fresh", "way", "left", "right", "cut"] ["pool", "many", "widest"] (defScope sLot) := ⟨rfl, rfl, rfl, by decide +kernel, rfl, by decide +kernel, by decide +kernel⟩
def sgs : List Str := ["ab", "ab", "abc", "zq", LET]
theorem sgs_ok : ∀ s ∈ sgs, 0 < s.length ∧ s.length ≤ 100 ∧ isL s = true := by decide +kernel
structure LotOk (ws : List Str) (wd : Int) : Prop where
  nd : ws.Nodup
  l : ∀ x ∈ ws, isL x = true ∧ 1 ≤ x.length ∧ (x.length : Int) ≤ wd
def spLot : Sp := fun vs H Q _ => ∃ (p : Addr) (many wd n : Int), vs = [.ref p, .int many, .int wd] ∧ PoolAt H p n ∧ n < 800000 ∧ 1 ≤ many ∧ many ≤ 8 ∧ 1 ≤ wd ∧ wd ≤ 20 ∧
  ∀ (l : Addr) (ws : List Str) H', H l = none → H' l = some (.lst (ws.map V.str)) → LotOk ws wd → 1 ≤ ws.length → (ws.length : Int) ≤ many → PoolAt H' p (n + 500) → SameBut p H H' → Q (.ref l) H'
theorem ok_lot {f fd' fw' : Addr} {fd fdd fdw : FuncData} {k : Nat} (F : Fun K "_law_lot" "_law_lot" sLot f fd) (B : Bu mg) (G : FnOk P w K mg base CX0 k fd' fdd ["pool", "span"] spDraw) (bD : Binds K fdd ["pool", "span"] []) (kD : PySem.W.keepIn K (.ref fd') = true) (gD : mg "_law_draw" = some (.ref fd'))
    (GW : FnOk P w K mg base CX0 (k + 1) fw' fdw ["pool", "widest", "signs"] spWord) (bW : Binds K fdw ["pool", "widest", "signs"] []) (kW : PySem.W.keepIn K (.ref fw') = true) (gW : mg "_law_word" = some (.ref fw')) :
    FnOk P w K mg base CX0 (k + 2) f fd ["pool", "many", "widest"] spLot := by
  refine F.ok scLot (fun vs H Q E h => ?_) (fun cdv A outer s H vs Q E hr h => ?_)
  · obtain ⟨p, many, wd, n, rfl, _⟩ := h
    rfl
  · obtain ⟨p, many, wd, n, rfl, hp, hn, hm, hm', hw, hw', q⟩ := h
    have hr1 : Room k _ := hr.mono (Nat.le_succ k)
    refine ⟨_, pss_cons (ps_set (i := 3) scLot.nd rfl (Or.inl rfl) (pe_ix ix_list (pe_lst (pa_cons pe_str (pa_cons pe_str (pa_cons pe_str (pa_cons pe_str (pa_cons pe_str pa_nil)))))) (pe_call G hr1 (by rfl) gD kD bD .nil pass0 (pa_cons (pv 0) (pa_cons pe_int pa_nil))) (fun _ _ => rfl)))
      (pss_cons (ps_set (i := 4) scLot.nd rfl (Or.inl rfl) (pe_lst pa_nil))
      (pss_cons (ps_for PassesOwn.never rfl (pi_range1 (by rfl) B.range (pa_cons (pe_op op_add pe_int (pe_call G hr1 (by rfl) gD kD bD .nil pass0 (pa_cons (pv 0) (pa_cons (pv 1) pa_nil)))) pa_nil)) (pg_name (i := 5) scLot.nd rfl (Or.inl rfl))
        (pss_cons (ps_par (i := 6) (j := 7) (by rfl) scLot.nd rfl rfl (by decide) rfl rfl (pa_cons (pe_call GW hr (by rfl) gW kW bW .nil pass0 (pa_cons (pv 0) (pa_cons (pv 2) (pa_cons (pv 3) pa_nil)))) (pa_cons (pe_call G hr1 (by rfl) gD kD bD .nil pass0 (pa_cons (pv 0) (pa_cons pe_int pa_nil))) pa_nil)) (by rfl))
        (pss_cons (ps_if (PW.pt (pw_and (pt_cmpR (op_neD hr.units) (pv 4) (pe_lst pa_nil) (nomark _)) (pw_and1 (pt_cmpR op_lt (pv 7) pe_int (nomark _)))))
          (pss_cons (ps_par (i := 8) (j := 9) (by rfl) scLot.nd rfl rfl (by decide) rfl rfl (pa_cons (pe_ix ix_list (pv 4) (pe_call G hr1 (by rfl) gD kD bD .nil pass0 (pa_cons (pv 0) (pa_cons (pe_callB call_len_seq (by rfl) B.len PySem.boot_len (pa_cons (pv 4) pa_nil)) pa_nil))) (fun _ _ => rfl))
              (pa_cons (pe_ix ix_list (pv 4) (pe_call G hr1 (by rfl) gD kD bD .nil pass0 (pa_cons (pv 0) (pa_cons (pe_callB call_len_seq (by rfl) B.len PySem.boot_len (pa_cons (pv 4) pa_nil)) pa_nil))) (fun _ _ => rfl)) pa_nil)) (by rfl))
          (pss_cons (ps_set (i := 10) scLot.nd rfl (Or.inl rfl) (pe_op op_add pe_int (pe_call G hr1 (by rfl) gD kD bD .nil pass0 (pa_cons (pv 0) (pa_cons (pe_callB call_len_str (by rfl) B.len PySem.boot_len (pa_cons (pv 8) pa_nil)) pa_nil)))))
          (pss_one (ps_set (i := 6) scLot.nd rfl (Or.inl rfl) (pe_ix ix_list (pe_lst (pa_cons (pe_op op_add_str (pv 8) (pv 9)) (pa_cons (pe_slice sl_str (pv 8) po_none (po_some (pv 10))) (pa_cons (pe_op op_add_str (pe_slice sl_str (pv 8) (po_some (pe_op op_sub (pv 10) pe_int)) po_none) (pe_slice sl_str (pv 9) po_none (po_some pe_int))) pa_nil)))) (pv 7) (fun _ _ => rfl)))))) pss_nil)
        (pss_one (ps_if (PW.pt (pw_and (pt_cmpR op_le (pe_callB call_len_str (by rfl) B.len PySem.boot_len (pa_cons (pv 6) pa_nil)) (pv 2) (nomark _)) (pw_and1 (pt_cmpR op_notIn_seq (pv 6) (pv 4) rfl))))
          (pss_one (ps_expr (pe_bm PySem.F.plainAttrs_list PySem.F.slot_list_append PySem.F.type_list_append mt_append (pv 4) (pa_cons (pv 6) pa_nil)))) pss_nil)))))
      (pss_one (ps_ret (pv 4))))), ?_⟩
    -- signs
    refine ⟨(by show 5 ≤ sizeLine; decide), fun l0 nl0 => ?_⟩
    have s0 := same_upd (o := .lst [V.str "ab", .str "ab", .str "abc", .str "zq", .str LET]) nl0
    refine ⟨_, rfl, p, _, n, rfl, hp.same s0, by omega, by decide, by decide, fun d H1 d0 d1 hp1 b1 => ?_⟩
    have np0 : p ≠ l0 := by
      obtain ⟨_, _, _, e, _⟩ := hp
      exact ne_of_none e nl0
    obtain ⟨sg, hsg, hsm, _⟩ := at_strs (ss := sgs) d0 d1
    obtain ⟨sg1, sg2, sg3⟩ := sgs_ok sg hsm
    refine ⟨l0, _, _, _, rfl, rfl, SqL.of (b1 _ _ (Ne.symm np0) upd_same), hsg, ?_⟩
    -- found = []
    refine ⟨Nat.zero_le _, fun l nl => ?_⟩
    have npl : p ≠ l := by
      obtain ⟨_, _, _, e, _⟩ := hp1
      exact ne_of_none e nl
    have b2 : SameBut p H (upd H1 l (.lst [])) := ((Same.but s0).trans b1).trans (Same.but (same_upd nl))
    refine ⟨_, rfl, _, rfl, p, many, n + 1, rfl, hp1.same (same_upd nl), by omega, by omega, by omega, fun d' H2 d0' d1' hp2 b3 => ?_⟩
    refine ⟨_, _, rfl, rfl, _, rfl, by omega, by omega, ?_⟩
    have hl0 : H l = none := (((Same.but s0).trans b1).free (Ne.symm npl) nl)
    have hl2 : H2 l = some (.lst []) := b3 _ _ (Ne.symm npl) upd_same
    refine for_range (lo := 0) (n := (1 + d').toNat) (fun i σ H3 => ∃ (ws : List Str) (v5 v6 v7 v8 v9 v10 : Option V), σ = [some (.ref p), some (.int many), some (.int wd), some (.str sg), some (.ref l), v5, v6, v7, v8, v9, v10] ∧
        H3 l = some (.lst (ws.map V.str)) ∧ LotOk ws wd ∧ ws.length ≤ i ∧ (1 ≤ i → 1 ≤ ws.length) ∧ PoolAt H3 p (n + 2 + 30 * i) ∧ SameBut p H H3)
      ⟨[], none, none, none, none, none, none, rfl, hl2, ⟨List.nodup_nil, fun x h => by simp at h⟩, Nat.le_refl _, fun h => by omega, hp2.le (by simp; omega), b2.trans b3⟩ ?_ ?_
    · rintro i σ H3 hi ⟨ws, v5, v6, v7, v8, v9, v10, rfl, hl3, lo, wl, wi, hp3, b4⟩
      have hi8 : i ≤ 8 := by omega
      refine ⟨_, rfl, _, rfl, _, rfl, p, wd, _, sg, rfl, hp3, by omega, hw, hw', sg1, sg2, fun z H4 z1 z2 z3 hp4 b5 => ?_⟩
      refine ⟨_, rfl, p, _, _, rfl, hp4, by omega, by decide, by decide, fun way H5 w0 w1 hp5 b6 => ⟨_, _, rfl, ?_⟩⟩
      have zL : isL z = true := isL_iff.mpr fun c hc => isL_iff.mp sg3 c (z3 c hc)
      have b7 : SameBut p H H5 := (b4.trans b5).trans b6
      have hl5 : H5 l = some (.lst (ws.map V.str)) := b6 _ _ (Ne.symm npl) (b5 _ _ (Ne.symm npl) hl3)
      with_reducible show tSeq _ _ _ _ _
      refine seq_mid (fun σ H6 => ∃ (y : Str) (v8 v9 v10 : Option V), σ = [some (.ref p), some (.int many), some (.int wd), some (.str sg), some (.ref l), some (.int (0 + i)), some (.str y), some (.int way), v8, v9, v10] ∧
        H6 l = some (.lst (ws.map V.str)) ∧ isL y = true ∧ 1 ≤ y.length ∧ y.length ≤ 1000 ∧ (ws = [] → (y.length : Int) ≤ wd) ∧ PoolAt H6 p (n + 2 + 30 * i + 29) ∧ SameBut p H H6) ?_ ?_
      · intro N hN
        have sok : SOk ws := fun x hx => sok_isL (lo.l x hx).1
        refine ⟨_, rfl, Nat.zero_le _, fun e ne => ?_⟩
        have s9 := same_upd (o := .lst []) ne
        refine ⟨_, _, dp_lst (SqL.of (s9 _ _ hl5)), dp_lst (ws := []) (SqL.of upd_same), sh_lst sok, sh_lst (fun x h => by simp at h), _, rfl, ?_⟩
        rw [eqv_lst]
        by_cases c0 : ws = []
        · rw [decide_eq_true c0]
          refine iteF (iteF ?_)
          exact hN _ _ ⟨z, v8, v9, v10, rfl, s9 _ _ hl5, zL, z1, by omega, fun _ => z2, (hp5.same s9).le (by omega), b7.trans (Same.but s9)⟩
        · rw [decide_eq_false c0]
          refine iteT ?_
          refine ⟨_, rfl, _, _, rfl, rfl, _, rfl, ?_⟩
          by_cases c1 : way < 3
          · rw [decide_eq_true c1]
            refine iteT ?_
            have hl7 := s9 _ _ hl5
            have wl1 : 1 ≤ ws.length := by
              cases ws with
              | nil => exact absurd rfl c0
              | cons a b => simp
            have hlen : (((ws.map V.str).length : Nat) : Int) = (ws.length : Int) := by rw [List.length_map]
            -- left, right
            refine ⟨_, rfl, _, rfl, _, rfl, l, _, rfl, .inl (SqL.of hl7), p, _, _, rfl, hp5.same s9, by omega, by omega, by omega, fun da H7 a0 a1 hp7 b9 => ?_⟩
            have hl8 := b9 _ _ (Ne.symm npl) hl7
            obtain ⟨lf, hlf, lfm, _⟩ := at_strs (ss := ws) a0 (by omega)
            refine ⟨l, _, _, _, rfl, rfl, SqL.of hl8, hlf, ?_⟩
            refine ⟨_, rfl, _, rfl, _, rfl, l, _, rfl, .inl (SqL.of hl8), p, _, _, rfl, hp7, by omega, by omega, by omega, fun db H8 e0 e1 hp8 b10 => ?_⟩
            have hl9 := b10 _ _ (Ne.symm npl) hl8
            obtain ⟨rt, hrt, rtm, _⟩ := at_strs (ss := ws) e0 (by omega)
            refine ⟨l, _, _, _, rfl, rfl, SqL.of hl9, hrt, ?_⟩
            obtain ⟨lf1, lf2, lf3⟩ := lo.l lf lfm
            obtain ⟨rt1, rt2, rt3⟩ := lo.l rt rtm
            have lfs : lf.length ≤ sizeLine := Nat.le_trans (show lf.length ≤ 20 by omega) (by decide)
            have rts : rt.length ≤ sizeLine := Nat.le_trans (show rt.length ≤ 20 by omega) (by decide)
            -- cut
            refine ⟨_, _, rfl, ?_⟩
            refine ⟨_, rfl, _, rfl, lf, rfl, lfs, p, _, _, rfl, hp8, by omega, by omega, by omega, fun dc H9 g0 g1 hp9 b11 => ?_⟩
            refine ⟨_, _, rfl, rfl, ?_⟩
            -- fresh
            refine ⟨_, rfl, _, rfl, lf, rt, rfl, rfl, Nat.le_trans (show lf.length + rt.length ≤ 40 by omega) (by decide), ?_⟩
            refine ⟨_, rfl, _, rfl, _, rfl, lf, rfl, lfs, ?_⟩
            refine ⟨_, rfl, _, rfl, _, _, rfl, rfl, _, rfl, lf, rfl, lfs, ?_⟩
            refine ⟨_, rfl, _, rfl, rt, rfl, rts, ?_⟩
            have cL : (cutS lf (some (1 + dc - 1)) none).length = lf.length - (1 + dc - 1).toNat := len_lo (by omega)
            have cR : (cutS rt none (some 1)).length = min (1 : Int).toNat rt.length := len_hi (by omega)
            have cC : (cutS lf none (some (1 + dc))).length = min (1 + dc).toNat lf.length := len_hi (by omega)
            have cR' : (1 : Int).toNat = 1 := rfl
            refine ⟨_, _, rfl, rfl, Nat.le_trans (show (cutS lf (some (1 + dc - 1)) none).length + (cutS rt none (some 1)).length ≤ 40 by omega) (by decide), ?_⟩
            refine ⟨(by show 3 ≤ sizeLine; decide), fun l3 nl3 => ?_⟩
            have s10 := same_upd (o := .lst [V.str (lf ++ rt), .str (cutS lf none (some (1 + dc))), .str (cutS lf (some (1 + dc - 1)) none ++ cutS rt none (some 1))]) nl3
            obtain ⟨y, hy, ym, _⟩ := at_strs (ss := [lf ++ rt, cutS lf none (some (1 + dc)), cutS lf (some (1 + dc - 1)) none ++ cutS rt none (some 1)]) w0 (by simpa using c1)
            refine ⟨_, rfl, l3, _, _, _, rfl, rfl, SqL.of upd_same, hy, ?_⟩
            have yy : isL y = true ∧ 1 ≤ y.length ∧ y.length ≤ 1000 := by
              simp only [List.mem_cons, List.not_mem_nil, or_false] at ym
              rcases ym with e | e | e
              · rw [e, len_app]
                exact ⟨isL_app lf1 rt1, by omega, by omega⟩
              · rw [e]
                exact ⟨isL_hi (by omega) lf1, by omega, by omega⟩
              · rw [e, len_app]
                exact ⟨isL_app (isL_lo (by omega) lf1) (isL_hi (by omega) rt1), by omega, by omega⟩
            refine hN _ _ ⟨y, some (.str lf), some (.str rt), some (.int (1 + dc)), rfl, s10 _ _ (b11 _ _ (Ne.symm npl) hl9), yy.1, yy.2.1, yy.2.2, fun z => absurd z c0, (hp9.same s10).le (by omega), ?_⟩
            exact (((((b7.trans (Same.but s9)).trans b9).trans b10).trans b11).trans (Same.but s10))
          · rw [decide_eq_false c1]
            refine iteF ?_
            exact hN _ _ ⟨z, v8, v9, v10, rfl, s9 _ _ hl5, zL, z1, by omega, fun e => absurd e c0, (hp5.same s9).le (by omega), b7.trans (Same.but s9)⟩
      · rintro σ H6 ⟨y, v8, v9, v10, rfl, hl6, yL, y1, y2, y3, hp6, b8⟩
        refine ⟨_, rfl, y, rfl, Nat.le_trans y2 (by decide), _, rfl, _, _, rfl, rfl, _, rfl, ?_⟩
        have go : ∀ H7, H7 l = some (.lst ((ws).map V.str)) → H7 = H6 → (ws ≠ []) → ∃ (ws' : List Str) (v5 v6 v7 v8' v9' v10' : Option V), ([some (.ref p), some (.int many), some (.int wd), some (.str sg), some (.ref l), some (.int (0 + i)), some (.str y), some (.int way), v8, v9, v10] : Sl) = [some (.ref p), some (.int many), some (.int wd), some (.str sg), some (.ref l), v5, v6, v7, v8', v9', v10'] ∧
            H7 l = some (.lst (ws'.map V.str)) ∧ LotOk ws' wd ∧ ws'.length ≤ i + 1 ∧ (1 ≤ i + 1 → 1 ≤ ws'.length) ∧ PoolAt H7 p (n + 2 + 30 * ((i + 1 : Nat) : Int)) ∧ SameBut p H H7 := by
          rintro H7 h7 rfl hne
          refine ⟨ws, _, _, _, _, _, _, rfl, h7, lo, by omega, fun _ => ?_, hp6.le (by push_cast; omega), b8⟩
          cases ws with
          | nil => exact absurd rfl hne
          | cons a b => simp
        by_cases c1 : (y.length : Int) ≤ wd
        · rw [decide_eq_true c1]
          refine iteT ?_
          refine ⟨_, rfl, _, rfl, l, _, rfl, .inl (SqL.of hl6), rfl, flat_strs ws, _, rfl, ?_⟩
          rw [inV_strs]
          by_cases c2 : y ∈ ws
          · rw [decide_eq_true c2]
            refine iteF ?_
            exact go H6 hl6 rfl (fun z => by rw [z] at c2; simp at c2)
          · rw [decide_eq_false c2]
            refine iteT ?_
            refine ⟨_, rfl, .inl ⟨rfl, _, SqL.of hl6⟩, _, rfl, l, _, _, rfl, rfl, hl6, ?_, ?_⟩
            · rw [List.length_map]
              exact Nat.lt_of_le_of_lt (show ws.length ≤ 100 by omega) (by decide)
            refine ⟨ws ++ [y], _, _, _, _, _, _, rfl, ?_, ⟨?_, ?_⟩, ?_, ?_, ?_, ?_⟩
            · rw [upd_same]
              simp
            · rw [List.nodup_append]
              exact ⟨lo.nd, by simp, fun a ha b hb => by
                simp at hb
                subst hb
                intro e
                subst e
                exact c2 ha⟩
            · intro x hx
              rcases List.mem_append.mp hx with h | h
              · exact lo.l x h
              · have e : x = y := by simpa using h
                subst e
                exact ⟨yL, y1, c1⟩
            · rw [List.length_append]
              simp
              omega
            · intro _
              rw [List.length_append]
              simp
            · obtain ⟨x0, x1, x2, e1, e2, e3, e4, e5, e6⟩ := hp6
              exact ⟨x0, x1, x2, by rw [upd_ne npl]; exact e1, e2, e3, e4, e5, by push_cast at e6 ⊢; omega⟩
            · intro b o nb hb
              have nbl : b ≠ l := by
                intro z
                subst z
                rw [hl0] at hb
                cases hb
              rw [upd_ne nbl]
              exact b8 _ _ nb hb
        · rw [decide_eq_false c1]
          refine iteF (iteF ?_)
          exact go H6 hl6 rfl (fun z => c1 (y3 z))
    · rintro σ H3 ⟨ws, v5, v6, v7, v8, v9, v10, rfl, hl3, lo, wl, wi, hp3, b4⟩
      exact ⟨_, rfl, q l ws H3 hl0 hl3 lo (wi (by omega)) (by omega) (hp3.le (by omega)) b4⟩
end

end WH
namespace WH
open PySem PySem.Spec PyProof.Rows L2
structure Cal (P : Program) (w : World) (K : PySem.W.Frag) (mg : Str → Option Value) (base : Heap) (k : Nat) (x : Str) (ps : List Str) (sp : Sp) (f : Addr) (fd : FuncData) : Prop where
  G : FnOk P w K mg base CX0 k f fd ps sp
  b : Binds K fd ps []
  k : PySem.W.keepIn K (.ref f) = true
  g : mg x = some (.ref f)

section
variable {P : Program} {w : World} {K : PySem.W.Frag} {mg : Str → Option Value} {base : Heap}
/-! ### errors: WordError.__init__, and what an error class must be -/
structure ErrC (K : PySem.W.Frag) (mg : Str → Option Value) (x : Str) (C fI : Addr) : Prop where
  o : OexC K C
  g : mg x = some (.ref C)
  nv : PySem.W.findIn K (.ref C) "value" = some none
  i : PySem.W.findIn K (.ref C) "__init__" = some (some (.ref fI))
  t : PySem.W.typeIn K (.ref fI) = some (.type "function")
theorem scEInit : FnScope ["self", "value"] ["self", "value"] (defScope sEInit) := ⟨rfl, rfl, rfl, by decide +kernel, rfl, by decide +kernel, by decide +kernel⟩
def spEInit (K : PySem.W.Frag) : Sp := fun vs H Q _ => ∃ (a C : Addr) (v : V), vs = [.ref a, v] ∧ OexC K C ∧ PySem.W.findIn K (.ref C) "value" = some none ∧ H a = some (exo a C none) ∧
  ∀ dx, H dx = none → dx ≠ a → Q .non (upd (upd H dx (exd dx [("value", v)])) a (exo a C (some dx)))
theorem ok_einit {f : Addr} {fd : FuncData} {k : Nat} (F : Fun K "__init__" "WordError.__init__" sEInit f fd) : FnOk P w K mg base CX0 (k + 1) f fd ["self", "value"] (spEInit K) := by
  refine F.ok scEInit (fun vs H Q E h => ?_) (fun cdv A outer s H vs Q E hr h => ?_)
  · obtain ⟨a, C, v, rfl, _⟩ := h
    rfl
  · obtain ⟨a, C, v, rfl, T, nv, ha, q⟩ := h
    refine ⟨_, pss_one (ps_ost (pv 0) (pv 1)), ?_⟩
    exact ⟨_, rfl, _, rfl, a, C, rfl, T, nv, .inl ⟨ha, fun dx n1 n2 => q dx n1 n2⟩⟩
/-- what such an error leaves: its own dict, new, holds the value -/
def ErrAt (C : Addr) (v : V) (H : Hp) (E : XK) : Prop := ∀ (d : Addr) (H' : Hp), H d = none → Same H H' → H' d = some (.xd [(("value" : Str), v)]) → E (.ref C) (some d) H'
theorem made_err {C : Addr} {v : V} {H : Hp} {W : Value → Option Addr → Hp → Prop} (T : OexC K C) (nv : PySem.W.findIn K (.ref C) "value" = some none) (h : ErrAt C v H W) : ∀ a, H a = none → spEInit K (.ref a :: ([v] ++ [])) (upd H a (exo a C none)) (fun z H2 => z = .non ∧
    ∃ (d : Addr) (fs : List (Str × V)), H2 a = some (exo a C (some d)) ∧ H2 d = some (exd d fs) ∧ H d = none ∧ W (.ref C) (some d) (upd (del H2 a) d (.xd fs))) (fun _ _ _ => False) := by
  intro a na
  refine ⟨a, C, v, rfl, T, nv, upd_same, fun dx n1 n2 => ⟨rfl, dx, _, upd_same, by rw [upd_ne n2, upd_same], ?_, ?_⟩⟩
  · rw [upd_ne n2] at n1
    exact n1
  · have n1' : H dx = none := by
      rw [upd_ne n2] at n1
      exact n1
    refine h dx _ n1' (fun b o e => ?_) upd_same
    have nb : b ≠ a := ne_of_none e na
    have nd : b ≠ dx := ne_of_none e n1'
    rw [upd_ne nd, del_ne nb, upd_ne nb, upd_ne nd, upd_ne nb]
    exact e
end

structure CalX (P : Program) (w : World) (K : PySem.W.Frag) (mg : Str → Option Value) (base : Heap) (k : Nat) (x : Str) (ps : List Str) (sp : Sp) (f : Addr) (fd : FuncData) : Prop where
  G : FnOk P w K mg base (L2.CX P w) k f fd ps sp
  b : Binds K fd ps []
  k : PySem.W.keepIn K (.ref f) = true
  g : mg x = some (.ref f)
/-- an error class with its __init__ -/
structure ErrX (P : Program) (w : World) (K : PySem.W.Frag) (mg : Str → Option Value) (base : Heap) (x : Str) (C fI : Addr) (fdI : FuncData) : Prop where
  c : ErrC K mg x C fI
  G : FnOk P w K mg base CX0 1 fI fdI ["self", "value"] (spEInit K)
  b : Binds K fdI ["self", "value"] []
/-! the Stock check: what it finds -/
inductive Flt where
  | w (x : Str)
  | n (k : Int)
def Flt.c (cW cN : Addr) : Flt → Addr
  | .w _ => cW
  | .n _ => cN
def Flt.v : Flt → V
  | .w x => .str x
  | .n k => .int k
def fltGo (seen : List Str) : List Str → Option Str
  | [] => none
  | x :: r => if isW x = true ∧ x ∉ seen then fltGo (seen ++ [x]) r else some x
def fl (ws : List Str) : Option Flt := match fltGo [] ws with
  | some x => some (.w x)
  | none => if 1 ≤ ws.length ∧ ws.length ≤ 8 then none else some (.n ((ws.length : Nat) : Int))
theorem fltGo_none : ∀ {r seen : List Str}, fltGo seen r = none → (∀ x ∈ r, isW x = true ∧ x ∉ seen) ∧ r.Nodup
  | [], _, _ => ⟨fun _ h => by simp at h, List.nodup_nil⟩
  | x :: r, seen, h => by
    unfold fltGo at h
    split at h
    · rename_i c
      obtain ⟨h1, h2⟩ := fltGo_none h
      refine ⟨fun y hy => ?_, List.nodup_cons.mpr ⟨fun hx => (h1 x hx).2 (by simp), h2⟩⟩
      rcases List.mem_cons.mp hy with rfl | hy
      · exact c
      · exact ⟨(h1 y hy).1, fun z => (h1 y hy).2 (List.mem_append_left _ z)⟩
    · cases h
theorem fltGo_good : ∀ {r seen : List Str}, (∀ x ∈ r, isW x = true ∧ x ∉ seen) → r.Nodup → fltGo seen r = none
  | [], _, _, _ => rfl
  | x :: r, seen, h, nd => by
    unfold fltGo
    rw [if_pos (h x List.mem_cons_self)]
    have nd' := List.nodup_cons.mp nd
    refine fltGo_good (fun y hy => ⟨(h y (List.mem_cons_of_mem _ hy)).1, fun z => ?_⟩) nd'.2
    rcases List.mem_append.mp z with z | z
    · exact (h y (List.mem_cons_of_mem _ hy)).2 z
    · have e : y = x := by simpa using z
      subst e
      exact nd'.1 hy
theorem fl_good {ws : List Str} (h : fl ws = none) : Good ws := by
  unfold fl at h
  split at h
  · cases h
  · rename_i c
    split at h
    · rename_i l
      obtain ⟨h1, h2⟩ := fltGo_none c
      exact ⟨fun x hx => (h1 x hx).1, h2, l.1, l.2⟩
    · cases h
theorem good_fl {ws : List Str} (g : Good ws) : fl ws = none := by
  unfold fl
  rw [fltGo_good (fun x hx => ⟨g.w x hx, by simp⟩) g.nd]
  show (if _ then none else _) = _
  rw [if_pos ⟨g.lo, g.hi⟩]
theorem fltGo_step {ws : List Str} {i : Nat} {x : Str} (h : ws[i]? = some x) (e : fltGo [] ws = fltGo (ws.take i) (ws.drop i)) : (isW x = true ∧ x ∉ ws.take i → fltGo [] ws = fltGo (ws.take (i + 1)) (ws.drop (i + 1))) ∧ (¬ (isW x = true ∧ x ∉ ws.take i) → fl ws = some (.w x)) := by
  obtain ⟨hi, ex⟩ := List.getElem?_eq_some_iff.mp h
  have ed : ws.drop i = x :: ws.drop (i + 1) := by
    rw [List.drop_eq_getElem_cons hi, ex]
  rw [ed] at e
  refine ⟨fun c => ?_, fun c => ?_⟩
  · rw [e]
    conv => lhs; unfold fltGo
    rw [if_pos c, take_snoc h]
  · have e2 : fltGo [] ws = some x := by
      rw [e]
      unfold fltGo
      rw [if_neg c]
    unfold fl
    rw [e2]
theorem fl_num {ws : List Str} (e : fltGo [] ws = none) (h : ¬ (1 ≤ ws.length ∧ ws.length ≤ 8)) : fl ws = some (.n ((ws.length : Nat) : Int)) := by
  unfold fl
  rw [e]
  show (if _ then none else _) = _
  rw [if_neg h]
theorem fl_ok {ws : List Str} (e : fltGo [] ws = none) (h : 1 ≤ ws.length ∧ ws.length ≤ 8) : fl ws = none := by
  unfold fl
  rw [e]
  show (if _ then none else _) = _
  rw [if_pos h]
section
variable {P : Program} {w : World} {K : PySem.W.Frag} {mg : Str → Option Value} {base : Heap}
def Errs (cW cN : Addr) (o : Option Flt) (H : Hp) (E : XK) : Prop := ∀ e, o = some e → ∀ H1, Same H H1 → ErrAt (e.c cW cN) e.v H1 E
theorem Errs.same {cW cN : Addr} {o : Option Flt} {H H' : Hp} {E : XK} (h : Errs cW cN o H E) (s : Same H H') : Errs cW cN o H' E := fun e he H1 s1 => h e he H1 (s.trans s1)
def spCheckWordsX (K : PySem.W.Frag) (cW cN : Addr) : Sp := fun vs H Q E => ∃ (a : Addr) (ws : List Str), vs = [.ref a] ∧ SqL K H a (ws.map V.str) ∧ ws.length ≤ 1000 ∧ (∀ x ∈ ws, x.length ≤ 100000) ∧ Errs cW cN (fl ws) H E ∧ (fl ws = none → ∀ H', Same H H' → Q .non H')
theorem ok_checkWordsX {f fL cW cN fI : Addr} {fd fdL fdI : FuncData} {t : Tok} (F : Fun K "check_words" "check_words" sCheckWords f fd) (IW : Cal P w K mg base 2 "is_word" ["text"] spIsWord fL fdL) (EW : ErrX P w K mg base "InvalidWord" cW fI fdI) (EN : ErrX P w K mg base "InvalidNumber" cN fI fdI)
    (mM : mg "MOST_WORDS" = some (.int 8 t)) (ml : mg "len" = none) (mset : mg "set" = none) : FnOk P w K mg base (L2.CX P w) 3 f fd ["words"] (spCheckWordsX K cW cN) := by
  refine F.okX scCheckWords (fun vs H Q E h => ?_) (fun cdv A outer s H vs Q E hr h => ?_)
  · obtain ⟨a, ws, rfl, _⟩ := h
    rfl
  · obtain ⟨a, ws, rfl, hS, hl, hx8, qe, q⟩ := h
    have hr2 : Room 2 _ := hr
    refine ⟨_, pss_cons (ps_set (i := 1) scCheckWords.nd rfl (Or.inl rfl) (pe_callTy0 cr_set0K (by rfl) mset (by decide +kernel)))
      (pss_cons (ps_for (passes_of rfl) rfl (pi_list (pv 0)) (pg_name (i := 2) scCheckWords.nd rfl (Or.inl rfl))
        (pss_cons (ps_if (PW.pt (pw_or (pt_not (pt_val (pe_call IW.G hr2 (by rfl) IW.g IW.k IW.b .nil pass0 (pa_cons (pv 2) pa_nil)))) (pw_or1 (pt_cmpR or_sinK (pv 2) (pv 1) rfl)))) (pss_one (ps_raise rfl (takes_of rfl rfl rfl rfl) (pmk_oex EW.c.o EW.c.i EW.c.t EW.G hr2 EW.b .nil pass0 (by rfl) EW.c.g (pa_cons (pv 2) pa_nil)))) pss_nil)
          (pss_one (ps_expr (pe_saddK (pv 1) (pa_cons (pv 2) pa_nil))))))
      (pss_one (ps_if (pt_not (pt_chain op_le op_le pe_int (pe_callB call_len_seq (by rfl) ml PySem.boot_len (pa_cons (pv 0) pa_nil)) (pe_glob (v := .int 8) rfl mM ⟨_, rfl⟩))) (pss_one (ps_raise rfl (takes_of rfl rfl rfl rfl) (pmk_oex EN.c.o EN.c.i EN.c.t EN.G hr2 EN.b .nil pass0 (by rfl) EN.c.g (pa_cons (pe_callB call_len_seq (by rfl) ml PySem.boot_len (pa_cons (pv 0) pa_nil)) pa_nil)))) pss_nil))), ?_⟩
    refine ⟨rfl, fun p np => ?_⟩
    have s1 : Same H (upd H p (SetK P w p (fun _ => false) 0)) := same_upd np
    refine ⟨_, rfl, a, rfl, ⟨_, s1.seq hS⟩, for_list (K := K) (a := a) (xs := ws.map V.str) (fun i σ H2 => ∃ (v : Option V) (S : Key → Bool) (n : Nat), σ = [some (.ref a), some (.ref p), v] ∧ Same H H2 ∧ H2 p = some (SetK P w p S n) ∧ n ≤ i ∧ (∀ x, S (.inr x) = decide (x ∈ ws.take i)) ∧ fltGo [] ws = fltGo (ws.take i) (ws.drop i))
      ⟨none, fun _ => false, 0, rfl, s1, upd_same, Nat.le_refl _, fun x => by simp, rfl⟩ (fun i σ H2 _ ⟨_, _, _, _, s2, _⟩ => s2.seq hS) ?_ ?_⟩
    · rintro i y σ H2 hi ⟨v, S, n, rfl, s2, hp, hn, hSx, hgo⟩
      obtain ⟨x, hx, rfl⟩ := map_at hi
      have hil : i < ws.length := (List.getElem?_eq_some_iff.mp hx).1
      obtain ⟨g1, g2⟩ := fltGo_step hx hgo
      have bad : ¬ (isW x = true ∧ x ∉ ws.take i) → ∀ H1, Same H H1 → ErrAt cW (.str x) H1 E := fun c => qe _ (g2 c)
      refine ⟨_, rfl, x, rfl, hx8 x (List.mem_of_getElem? hx), fun H3 s3 => ⟨_, rfl, ?_⟩⟩
      cases hw : isW x with
      | false =>
        refine iteT (iteT ?_)
        exact ⟨_, rfl, (by show 1 ≤ 1000; decide), made_err EW.c.o EW.c.nv (bad (fun c => by rw [hw] at c; cases c.1) _ (s2.trans s3))⟩
      | true =>
        refine iteF ?_
        have hp3 := s3 _ _ hp
        refine ⟨_, rfl, _, rfl, Sum.inr x, p, S, n, rfl, rfl, hp3, _, rfl, ?_⟩
        by_cases hm : x ∈ ws.take i
        · have hf : S (.inr x) = true := by
            rw [hSx]
            exact decide_eq_true hm
          rw [if_neg Bool.false_ne_true, hf]
          refine iteT ?_
          exact ⟨_, rfl, (by show 1 ≤ 1000; decide), made_err EW.c.o EW.c.nv (bad (fun c => c.2 hm) _ (s2.trans s3))⟩
        have hf : S (.inr x) = false := by
          rw [hSx]
          exact decide_eq_false hm
        rw [if_neg Bool.false_ne_true, hf]
        refine iteF ?_
        refine ⟨_, rfl, ⟨p, S, n, rfl, hp3⟩, _, rfl, p, Sum.inr x, S, n, rfl, rfl, hp3, Nat.lt_of_lt_of_le (show n + 1 < 2000 by omega) (by decide), ?_⟩
        refine ⟨_, _, _, rfl, same_set (s2.trans s3) np, upd_same, ?_, fun y => ?_, g1 ⟨hw, hm⟩⟩
        · rw [hf]
          simp
          omega
        · rw [take_snoc hx, hSx]
          simp
    · rintro σ H2 ⟨v, S, n, rfl, s2, _, _, _, hgo⟩
      have hgo' : fltGo [] ws = none := by
        rw [List.length_map] at hgo
        rw [hgo, List.drop_length]
        rfl
      refine ⟨_, rfl, a, _, rfl, .inl (s2.seq hS), _, _, rfl, rfl, _, rfl, ?_⟩
      have raise : ¬ (1 ≤ ws.length ∧ ws.length ≤ 8) → ∀ H1, Same H H1 → ErrAt cN (.int ((ws.length : Nat) : Int)) H1 E := fun c => qe _ (fl_num hgo' c)
      rw [List.length_map]
      by_cases c1 : (1 : Int) ≤ ((ws.length : Nat) : Int)
      · rw [decide_eq_true c1]
        refine iteT ?_
        refine ⟨_, _, rfl, rfl, _, rfl, ?_⟩
        by_cases c8 : ((ws.length : Nat) : Int) ≤ 8
        · rw [decide_eq_true c8]
          refine iteF ?_
          exact q (fl_ok hgo' ⟨by omega, by omega⟩) _ s2
        · rw [decide_eq_false c8]
          refine iteT ?_
          refine ⟨_, rfl, a, _, rfl, .inl (s2.seq hS), ?_⟩
          rw [List.length_map]
          exact ⟨(by show 1 ≤ 1000; decide), made_err EN.c.o EN.c.nv (raise (fun c => c8 (by omega)) _ s2)⟩
      · rw [decide_eq_false c1]
        refine iteF ⟨_, rfl, iteT ?_⟩
        refine ⟨_, rfl, a, _, rfl, .inl (s2.seq hS), ?_⟩
        rw [List.length_map]
        exact ⟨(by show 1 ≤ 1000; decide), made_err EN.c.o EN.c.nv (raise (fun c => c1 (by omega)) _ s2)⟩
def spSInitX (K : PySem.W.Frag) (C cW cN : Addr) : Sp := fun vs H Q E => ∃ (p dx a : Addr) (ws : List Str), vs = [.ref p, .ref a] ∧ H p = some (.ins C dx []) ∧ SqL K H a (ws.map V.str) ∧ ws.length ≤ 1000 ∧ (∀ x ∈ ws, x.length ≤ 100000) ∧ Errs cW cN (fl ws) H E ∧
  (fl ws = none → ∀ H', StkAt C H' p ws → (∀ b o, H b = some o → b ≠ p → H' b = some o) → Q .non H')
theorem ok_sinitX {f fL C fi fe fw cW cN : Addr} {fd fdL : FuncData} (F : Fun K "__init__" "Stock.__init__" sSInit f fd) (T : StkC K mg C fi fe fw) (CW : CalX P w K mg base 3 "check_words" ["words"] (spCheckWordsX K cW cN) fL fdL)
    (mt : mg "tuple" = none) : FnOk P w K mg base (L2.CX P w) 4 f fd ["self", "words"] (spSInitX K C cW cN) := by
  refine F.okX scSInit (fun vs H Q E h => ?_) (fun cdv A outer s H vs Q E hr h => ?_)
  · obtain ⟨p, dx, a, ws, rfl, _⟩ := h
    rfl
  · obtain ⟨p, dx, a, ws, rfl, hp, hS, hl, hx, qe, q⟩ := h
    have hr3 : Room 3 _ := hr
    refine ⟨_, pss_cons (ps_expr (pe_call CW.G hr3 (by rfl) CW.g CW.k CW.b .nil (passes_call (takes_of rfl rfl rfl rfl) (fun _ _ _ _ h => h)) (pa_cons (pv 1) pa_nil)))
      (pss_one (ps_fld (pv 0) (pe_callTy call_tuple_of (by rfl) mt (by decide +kernel) (pa_cons (pv 1) pa_nil)) rfl)), ?_⟩
    refine ⟨_, rfl, a, ws, rfl, hS, hl, hx, qe, fun ok H1 s1 => ?_⟩
    refine ⟨_, rfl, a, _, rfl, .inl ⟨s1.seq hS, fun l nl => ?_⟩⟩
    have npl : p ≠ l := ne_of_none (s1 _ _ hp) nl
    refine ⟨_, rfl, p, C, dx, [], rfl, (by rw [upd_ne npl]; exact s1 _ _ hp), T.cl, T.nW, (by show 0 < 1000; decide), ?_⟩
    refine q ok _ ⟨dx, l, upd_same, by rw [upd_ne npl.symm, upd_same]⟩ fun b o e hb => ?_
    rw [upd_ne hb]
    exact same_set s1 (s1.free nl) b o e
/-- Stock(ws), which may raise -/
theorem mk_stockX {C a cW cN : Addr} {ws : List Str} {H : Hp} {Q : VK} {E : XK} (hS : SqL K H a (ws.map V.str)) (hl : ws.length ≤ 1000) (hx : ∀ x ∈ ws, x.length ≤ 100000) (qe : Errs cW cN (fl ws) H E) (q : fl ws = none → ∀ x H', H x = none → Same H H' → StkAt C H' x ws → Q (.ref x) H') :
    ∀ x dx, H x = none → H dx = none → dx ≠ x → spSInitX K C cW cN [.ref x, .ref a] (upd (upd H dx (.own x)) x (.ins C dx [])) (fun v H2 => v = .non ∧ Q (.ref x) H2) E := by
  intro x dx nx ndx nex
  have s0 : Same H (upd (upd H dx (.own x)) x (.ins C dx [])) := same_set (same_upd ndx) nx
  exact ⟨x, dx, a, ws, rfl, upd_same, s0.seq hS, hl, hx, qe.same s0, fun ok H' st kp => ⟨rfl, q ok x H' nx (fun b o e => kp b o (s0 b o e) (ne_of_none e nx)) st⟩⟩
theorem scWith : FnScope ["stock", "word"] ["stock", "word"] (defScope sWith) := ⟨rfl, rfl, rfl, by decide +kernel, rfl, by decide +kernel, by decide +kernel⟩
def spWithX (C cW cN : Addr) : Sp := fun vs H Q E => ∃ (p : Addr) (ws : List Str) (x : Str), vs = [.ref p, .str x] ∧ StkAt C H p ws ∧ Good ws ∧ x.length ≤ 100000 ∧ Errs cW cN (fl (ws ++ [x])) H E ∧ (fl (ws ++ [x]) = none → ∀ r H', H r = none → Same H H' → StkAt C H' r (ws ++ [x]) → Q (.ref r) H')
theorem ok_withX {f C fi fe fw cW cN : Addr} {fd fdi fdw : FuncData} (F : Fun K "with_word" "with_word" sWith f fd) (T : StkC K mg C fi fe fw) (Gi : FnOk P w K mg base (L2.CX P w) 4 fi fdi ["self", "words"] (spSInitX K C cW cN)) (bi : Binds K fdi ["self", "words"] [])
    (Gw : FnOk P w K mg base CX0 1 fw fdw ["self"] (spSWords C)) (bw : Binds K fdw ["self"] []) : FnOk P w K mg base (L2.CX P w) 6 f fd ["stock", "word"] (spWithX C cW cN) := by
  refine F.okX scWith (fun vs H Q E h => ?_) (fun cdv A outer s H vs Q E hr h => ?_)
  · obtain ⟨p, ws, x, rfl, _⟩ := h
    rfl
  · obtain ⟨p, ws, x, rfl, st, g, hx, qe, q⟩ := h
    obtain ⟨pp, hpp⟩ := T.prop
    have hst := st
    obtain ⟨dx, t, h1, h2⟩ := st
    have hr5 : Room 5 _ := hr
    have hr2 : Room 2 _ := hr.mono (by decide)
    refine ⟨_, pss_one (ps_ret (pe_make T.made Gi hr5 (by rfl) T.mgC bi .nil (passes_call (takes_of rfl rfl rfl rfl) (fun _ _ _ _ h => h)) (pa_cons (pe_op op_cat (pe_prop (pv 0) T.cl hpp Gw hr2 bw .nil pass0 rfl) (pe_lst (pa_cons (pv 1) pa_nil))) pa_nil))), ?_⟩
    refine ⟨_, rfl, p, dx, _, rfl, h1, p, ws, rfl, hst, fun l H1 nl s1 h3 => ?_⟩
    refine ⟨_, rfl, (by show 1 ≤ sizeLine; decide), fun l2 nl2 => ?_⟩
    have n12 : l ≠ l2 := ne_of_none h3 nl2
    have g8 := g.hi
    refine ⟨l, l2, _, _, rfl, rfl, (by rw [upd_ne n12]; exact h3), upd_same, ?_, fun l3 nl3 => ?_⟩
    · rw [List.length_map]
      exact Nat.le_trans (show ws.length + 1 ≤ 10 by omega) (by decide)
    have e : ws.map V.str ++ [V.str x] = (ws ++ [x]).map V.str := by simp
    rw [e]
    have s3 : Same H (upd (upd H1 l2 (.lst [V.str x])) l3 (.lst ((ws ++ [x]).map V.str))) := same_set (same_set s1 (s1.free nl2)) (s1.free ((same_upd nl2).free nl3))
    refine mk_stockX (SqL.of upd_same) (by simp; omega) (fun y hy => ?_) (qe.same s3) fun ok r H' nr s' st' => q ok r H' (s3.free nr) (s3.trans s') st'
    rcases List.mem_append.mp hy with hy | hy
    · have := (isW_len (g.w y hy)).2
      omega
    · have e : y = x := by simpa using hy
      rw [e]
      exact hx
theorem scWithout : FnScope ["stock", "word", "words", "other"] ["stock", "word"] (defScope sWithout) := ⟨rfl, rfl, rfl, by decide +kernel, rfl, by decide +kernel, by decide +kernel⟩
def wout (ws : List Str) (x : Str) : List Str := ws.filter fun z => !decide (z = x)
theorem wout_mem {ws : List Str} {x z : Str} : z ∈ wout ws x ↔ z ∈ ws ∧ z ≠ x := by
  unfold wout
  simp [List.mem_filter]
theorem wout_sub (ws : List Str) (x : Str) : (wout ws x).Sublist ws := List.filter_sublist
theorem good_wout {ws : List Str} {x : Str} (g : Good ws) (h : 1 ≤ (wout ws x).length) : Good (wout ws x) :=
  ⟨fun y hy => g.w y (wout_mem.mp hy).1, g.nd.sublist (wout_sub ws x), h, Nat.le_trans (wout_sub ws x).length_le g.hi⟩
def flo (ws : List Str) (x : Str) : Option Flt := if x ∈ ws then fl (wout ws x) else some (.w x)
def spWithoutX (C cW cN : Addr) : Sp := fun vs H Q E => ∃ (p : Addr) (ws : List Str) (x : Str), vs = [.ref p, .str x] ∧ StkAt C H p ws ∧ Good ws ∧ x.length ≤ 100000 ∧ Errs cW cN (flo ws x) H E ∧ (flo ws x = none → ∀ r H', H r = none → Same H H' → StkAt C H' r (wout ws x) → Q (.ref r) H')
theorem ok_withoutX {f C fi fe fw cW cN fI : Addr} {fd fdi fdw fdI : FuncData} (F : Fun K "without_word" "without_word" sWithout f fd) (T : StkC K mg C fi fe fw) (Gi : FnOk P w K mg base (L2.CX P w) 4 fi fdi ["self", "words"] (spSInitX K C cW cN)) (bi : Binds K fdi ["self", "words"] [])
    (Gw : FnOk P w K mg base CX0 1 fw fdw ["self"] (spSWords C)) (bw : Binds K fdw ["self"] []) (EW : ErrX P w K mg base "InvalidWord" cW fI fdI) : FnOk P w K mg base (L2.CX P w) 6 f fd ["stock", "word"] (spWithoutX C cW cN) := by
  refine F.okX scWithout (fun vs H Q E h => ?_) (fun cdv A outer s H vs Q E hr h => ?_)
  · obtain ⟨p, ws, x, rfl, _⟩ := h
    rfl
  · obtain ⟨p, ws, x, rfl, st, g, hxl, qe, q⟩ := h
    obtain ⟨pp, hpp⟩ := T.prop
    have hst := st
    obtain ⟨dx, t, h1', h2⟩ := st
    have hr5 : Room 5 _ := hr
    have hr2 : Room 2 _ := hr.mono (by decide)
    refine ⟨_, pss_cons (ps_set (i := 2) scWithout.nd rfl (Or.inl rfl) (pe_prop (pv 0) T.cl hpp Gw hr2 bw .nil pass0 rfl))
      (pss_cons (ps_if (pt_cmpR op_notIn_seq (pv 1) (pv 2) rfl) (pss_one (ps_raise rfl (takes_of rfl rfl rfl rfl) (pmk_oex EW.c.o EW.c.i EW.c.t EW.G hr2 EW.b .nil pass0 (by rfl) EW.c.g (pa_cons (pv 1) pa_nil)))) pss_nil)
      (pss_one (ps_ret (pe_make T.made Gi hr5 (by rfl) T.mgC bi .nil (passes_call (takes_of rfl rfl rfl rfl) (fun _ _ _ _ h => h)) (pa_cons
        (pe_lc (own := [("other", 3)]) (g := gName 3) rfl scWithout.nd (pi_list (pv 2)) (blkOk_by (N := ["stock", "word", "words", "other"]) (sc := defScope sWithout) (by decide +kernel))
          (fun _ _ _ _ _ => pg_name (i := 3) scWithout.nd rfl (Or.inl rfl)) (fun _ _ _ _ _ => pts_one (pt_cmpR op_ne (pv 3) (pv 1) (nomark _))) (fun _ _ _ _ _ => pv 3)) pa_nil))))), ?_⟩
    refine ⟨_, rfl, p, dx, _, rfl, h1', p, ws, rfl, hst, fun l H1 nl s1 h3 => ?_⟩
    refine ⟨_, rfl, _, rfl, l, _, rfl, .inl (SqL.of h3), rfl, flat_strs ws, _, rfl, ?_⟩
    rw [inV_strs]
    by_cases hx : x ∈ ws
    case neg =>
      rw [decide_eq_false hx]
      refine iteT ⟨_, rfl, (by show 1 ≤ 1000; decide), made_err EW.c.o EW.c.nv (qe (.w x) ?_ _ s1)⟩
      unfold flo
      rw [if_neg hx]
    rw [decide_eq_true hx]
    refine iteF ?_
    have ef : flo ws x = fl (wout ws x) := if_pos hx
    rw [ef] at qe q
    refine ⟨_, rfl, l, rfl, ⟨_, SqL.of h3⟩, fun D hD => ?_⟩
    refine lc_fm walk_list (fun i => fSel (fun z => !decide (z = x)) ((ws.map V.str).getD i .non)) ?_ hD (fun H2 s2 => s2.seq (SqL.of h3)) ?_ ?_
    · have := g.hi
      rw [List.length_map]
      exact Nat.lt_of_le_of_lt this (by decide)
    · rintro i y H2 H3 N hi s2 ⟨rfl, hy⟩ hN
      obtain ⟨z, hz, rfl⟩ := map_at hy
      refine ⟨rfl, ?_⟩
      refine ⟨_, rfl, _, rfl, rfl, _, rfl, ?_⟩
      have e : (ws.map V.str).getD i .non = .str z := by
        rw [List.getD_eq_getElem?_getD, hy]
        rfl
      have hN' := hN H3 (Same.refl _)
      rw [e] at hN'
      by_cases c : z = x
      · subst c
        have hd : (!decide (V.str z = V.str z)) = false := by simp
        rw [hd]
        refine iteF ?_
        rw [fSel_no (by simp)] at hN'
        exact hN'
      · have hd : (!decide (V.str z = V.str x)) = true := by simp [c]
        rw [hd]
        refine iteT ?_
        refine ⟨_, rfl, ?_⟩
        rw [fSel_yes (by simp [c])] at hN'
        exact hN'
    · intro H2 s2 h4
      rw [fmr_list (ws.map V.str) (fSel fun z => !decide (z = x)), fmap_filter] at h4
      have s3 := s1.trans s2
      have g8 := g.hi
      have sub := (wout_sub ws x).length_le
      exact mk_stockX (SqL.of h4) (by show (wout ws x).length ≤ 1000; omega) (fun y hy => by have := (isW_len (g.w y (wout_mem.mp hy).1)).2; omega) (qe.same s3) fun ok r H' nr s' st' => q ok r H' (s3.free nr) (s3.trans s') st'
end

end WH
namespace WH
open PySem PySem.Spec PyProof.Rows L2
/-! ### data that repr and == are asked of -/
structure Sm (d : PyData) (dp wt : Nat) : Prop where
  sh : d.showable = true
  nd : d.hasDict = false
  dp : d.depth ≤ dp
  ls : d.leavesShort 2000 = true
  wt : d.weight ≤ wt
  cl : d.canLay0 = true
structure SmA (ds : List PyData) (dp wt : Nat) : Prop where
  sh : PyData.showableAll ds = true
  nd : PyData.hasDictAll ds = false
  dp : PyData.depthAll ds ≤ dp
  ls : PyData.leavesShortAll 2000 ds = true
  wt : PyData.weightAll ds ≤ wt
  cl : PyData.canLayAll0 ds = true
theorem log_small {n : Int} {b : Nat} (h : n.natAbs < 2 ^ b) (hb : 0 < b) : n.natAbs.log2 < b := PySem.Flt.log2_lt_of hb h
theorem int_short {n : Int} (h : n.natAbs < 2 ^ 200) : PyData.leavesShort 2000 (.int n) = true := by
  have h1 := log_small h (by decide)
  simp only [PyData.leavesShort, PyData.shown]
  apply decide_eq_true
  have := int_text_length_le (a := n) (k := 200) (by decide) h1
  show (Str.ofString (toString n)).length ≤ 2000
  rw [PySem.ofString_length]
  omega
theorem Sm.int {n : Int} (h : n.natAbs < 2 ^ 200) : Sm (.int n) 0 200 := by
  have l := log_small h (by decide)
  refine ⟨?_, by simp [PyData.hasDict], by simp [PyData.depth], int_short h, ?_, by simp [PyData.canLay0]⟩
  · simp only [PyData.showable]
    exact decide_eq_true (by omega)
  · simp only [PyData.weight]
    split <;> omega
theorem Sm.bool (b : Bool) : Sm (.bool b) 0 0 := by
  refine ⟨by simp [PyData.showable], by simp [PyData.hasDict], by simp [PyData.depth], ?_, by simp [PyData.weight], by simp [PyData.canLay0]⟩
  cases b <;> decide +kernel
theorem Sm.str {x : Str} (h : PyData.strOk x = true) {m : Nat} (hm : x.length ≤ m) : Sm (.str x) 0 m :=
  ⟨by simp [PyData.showable], by simp [PyData.hasDict], by simp [PyData.depth], short_str h, by simp only [PyData.weight]; exact hm, by simp only [PyData.canLay0]; exact h⟩
theorem SmA.nil : SmA [] 0 0 := ⟨by simp [PyData.showableAll], by simp [PyData.hasDictAll], by simp [PyData.depthAll], by simp [PyData.leavesShortAll], by simp [PyData.weightAll], by simp [PyData.canLayAll0]⟩
theorem SmA.cons {d : PyData} {ds : List PyData} {dp wt w2 : Nat} (h : Sm d dp wt) (hs : SmA ds dp w2) : SmA (d :: ds) dp (wt + 1 + w2) := by
  obtain ⟨a1, a2, a3, a4, a5, a6⟩ := h
  obtain ⟨b1, b2, b3, b4, b5, b6⟩ := hs
  refine ⟨?_, ?_, ?_, ?_, ?_, ?_⟩
  · simp only [PyData.showableAll, a1, b1, Bool.and_self]
  · simp only [PyData.hasDictAll, a2, b2, Bool.or_self]
  · simp only [PyData.depthAll]
    omega
  · simp only [PyData.leavesShortAll, a4, b4, Bool.and_self]
  · simp only [PyData.weightAll]
    omega
  · simp only [PyData.canLayAll0, a6, b6, Bool.and_self]
theorem SmA.mono {ds : List PyData} {dp wt dp' wt' : Nat} (h : SmA ds dp wt) (h1 : dp ≤ dp') (h2 : wt ≤ wt') : SmA ds dp' wt' := ⟨h.sh, h.nd, Nat.le_trans h.dp h1, h.ls, Nat.le_trans h.wt h2, h.cl⟩
theorem Sm.mono {d : PyData} {dp wt dp' wt' : Nat} (h : Sm d dp wt) (h1 : dp ≤ dp') (h2 : wt ≤ wt') : Sm d dp' wt' := ⟨h.sh, h.nd, Nat.le_trans h.dp h1, h.ls, Nat.le_trans h.wt h2, h.cl⟩
theorem Sm.list {ds : List PyData} {dp wt : Nat} (h : SmA ds dp wt) : Sm (.list ds) (dp + 1) wt := by
  obtain ⟨b1, b2, b3, b4, b5, b6⟩ := h
  refine ⟨by simp only [PyData.showable, b1], by simp only [PyData.hasDict, b2], ?_, by simp only [PyData.leavesShort, b4], by simp only [PyData.weight]; exact b5, by simp only [PyData.canLay0, b6]⟩
  simp only [PyData.depth]
  omega
theorem SmA.all {ds : List PyData} {dp wt : Nat} (h : ∀ d ∈ ds, Sm d dp wt) : SmA ds dp ((wt + 1) * ds.length) := by
  induction ds with
  | nil => exact SmA.nil.mono (Nat.zero_le _) (Nat.zero_le _)
  | cons d ds ih =>
    refine (SmA.cons (h d List.mem_cons_self) (ih fun x hx => h x (List.mem_cons_of_mem _ hx))).mono (Nat.le_refl _) ?_
    rw [List.length_cons, Nat.mul_add]
    omega
theorem Sm.two {d : PyData} {dp wt : Nat} (h : Sm d dp wt) : Sm (.list [d, d]) (dp + 1) (2 * wt + 2) :=
  (Sm.list (SmA.cons h (SmA.cons h (SmA.nil.mono (Nat.zero_le dp) (Nat.le_refl 0))))).mono (Nat.le_refl _) (by omega)
/-- what repr asks of its argument -/
theorem Sm.repr {K : PySem.W.Frag} {H : Hp} {a : Addr} {d : PyData} {dp wt : Nat} (h : Sm d dp wt) (hd : dp ≤ 60) (hw : wt ≤ 8000) (hD : Dp K H (.ref a) d) : Dp K H (.ref a) d ∧ d.showable = true ∧ d.hasDict = false ∧ d.depth ≤ 60 ∧ d.shown.length ≤ sizeLine :=
  ⟨hD, h.sh, h.nd, Nat.le_trans h.dp hd, fits2 h.ls (Nat.le_trans h.wt hw)⟩
theorem Sm.shaped {d : PyData} {dp wt : Nat} (h : Sm d dp wt) (hd : dp ≤ 60) : SeqAt.shaped d = true := by
  unfold SeqAt.shaped
  rw [h.cl, decide_eq_true (show d.depth ≤ 64 from Nat.le_trans h.dp (by omega))]
  rfl

theorem StkAt.butL {C p m : Addr} {H H' : Hp} {ws : List Str} {xs : List V} (h : StkAt C H m ws) (hp : H p = some (.lst xs)) (s : SameBut p H H') : StkAt C H' m ws := by
  obtain ⟨dx, t, h1, h2⟩ := h
  exact ⟨dx, t, s _ _ (ne_of h1 hp (by intro z; cases z)) h1, s _ _ (ne_of h2 hp (by intro z; cases z)) h2⟩
theorem StkAt.but {C p m : Addr} {H H' : Hp} {ws : List Str} {n : Int} (h : StkAt C H m ws) (hp : PoolAt H p n) (s : SameBut p H H') : StkAt C H' m ws := by
  obtain ⟨_, _, _, e, _⟩ := hp
  exact h.butL e s
theorem mk_s0 {C x dx : Addr} {H : Hp} (nx : H x = none) (ndx : H dx = none) : Same H (upd (upd H dx (.own x)) x (.ins C dx [])) := same_set (same_upd ndx) nx
theorem mk_same {C x dx : Addr} {H H' : Hp} (nx : H x = none) (ndx : H dx = none) (kp : ∀ b o, (upd (upd H dx (.own x)) x (.ins C dx [])) b = some o → b ≠ x → H' b = some o) : Same H H' := fun b o e => kp b o (mk_s0 nx ndx b o e) (ne_of_none e nx)
theorem good_lot {ws : List Str} (h : LotOk ws 8) (h1 : 1 ≤ ws.length) (h8 : ws.length ≤ 8) : Good ws :=
  ⟨fun x hx => by
    obtain ⟨a, b, c⟩ := h.l x hx
    unfold isW
    rw [a, decide_eq_true b, decide_eq_true (show x.length ≤ 8 by omega)]
    rfl, h.nd, h1, h8⟩
theorem PoolAt.ne {H : Hp} {p q : Addr} {n : Int} (h : PoolAt H p n) (hq : H q = none) : p ≠ q := by
  obtain ⟨_, _, _, e, _⟩ := h
  exact ne_of_none e hq
theorem PoolAt.upd {H : Hp} {p q : Addr} {n : Int} {o : HO} (h : PoolAt H p n) (hq : p ≠ q) : PoolAt (upd H q o) p n := by
  obtain ⟨a, b, c, e, r⟩ := h
  exact ⟨a, b, c, by rw [upd_ne hq]; exact e, r⟩
theorem good_isL {ws : List Str} (g : Good ws) : ∀ x ∈ ws, isL x = true := fun x hx => by
  have := g.w x hx
  unfold isW at this
  simp only [Bool.and_eq_true] at this
  exact this.2
structure BuX (mg : Str → Option Value) : Prop extends Bu mg where
  repr : mg "repr" = none
theorem cut_take (xs : List V) (k : Nat) : cutV xs none (some (k : Int)) = xs.take k := by
  unfold cutV
  rw [HT.sIx_nat, HT.sIx_none, List.drop_zero, Nat.sub_zero, ← List.take_eq_take_min]
theorem rep2 (v : V) : (List.replicate (Int.toNat 2) [v]).flatten = [v, v] := rfl
theorem atI_last {xs : List V} {v : V} (h : xs[xs.length - 1]? = some v) : atI xs (-1) = some v := by
  have hl := (List.getElem?_eq_some_iff.mp h).1
  unfold atI ixN
  rw [if_neg (by decide), if_pos (by omega)]
  show xs[((xs.length : Int) + -1).toNat]? = some v
  rw [show ((xs.length : Int) + -1).toNat = xs.length - 1 by omega]
  exact h

/-- the classes by the names that the law uses -/
structure Kinds (mg : Str → Option Value) (cE cW cN o1 o2 o3 o4 o5 o6 o7 : Addr) : Prop where
  gE : mg "WordError" = some (.ref cE)
  gW : mg "InvalidWord" = some (.ref cW)
  gN : mg "InvalidNumber" = some (.ref cN)
  g1 : mg "InvalidReading" = some (.ref o1)
  g2 : mg "InvalidText" = some (.ref o2)
  g3 : mg "NotApart" = some (.ref o3)
  g4 : mg "NotOneWay" = some (.ref o4)
  g5 : mg "NothingToUndo" = some (.ref o5)
  g6 : mg "TooMany" = some (.ref o6)
  g7 : mg "Unreadable" = some (.ref o7)
  gV : mg "ValueError" = none
/-- a class of errors, as the law tells it -/
structure Tell (K : PySem.W.Frag) (cE cW cN o1 o2 o3 o4 o5 o6 o7 D : Addr) (b1 b2 : Bool) : Prop where
  ex : ExcC K D
  xf : XfC K D
  nv : PySem.W.findIn K (.ref D) "value" = some none
  exm : PySem.W.exmOne K (.ref D) (.ref cE) = some true
  od : PySem.W.kitAny K (.ref D) [.ref o1, .ref o2, .ref o3, .ref o4, .ref o5, .ref o6, .ref o7] = some false
  kV : PySem.W.kitOne K (.ref D) (.type "ValueError") = some true
  kW : PySem.W.kitOne K (.ref D) (.ref cW) = some b1
  kN : PySem.W.kitOne K (.ref D) (.ref cN) = some b2
section
variable {P : Program} {w : World} {K : PySem.W.Frag} {mg : Str → Option Value} {base : Heap}
theorem scFlagged : FnScope ["e", "odd", "found"] ["e"] (defScope sFlagged) := ⟨rfl, rfl, rfl, by decide +kernel, rfl, by decide +kernel, by decide +kernel⟩
def spFlag (K : PySem.W.Frag) (cE cW cN o1 o2 o3 o4 o5 o6 o7 : Addr) (a : Addr) (c : Value) (d : Option Addr) : Sp := fun vs H Q _ => vs = [.ref a] ∧ ∃ (D dd : Addr) (v : V) (b1 b2 : Bool), c = .ref D ∧ d = some dd ∧ Tell K cE cW cN o1 o2 o3 o4 o5 o6 o7 D b1 b2 ∧ H dd = some (.xd [(("value" : Str), v)]) ∧
  ∀ l H', H l = none → Same H H' → H' l = some (.lst [.bl b1, .bl b2, .bl false, v]) → Q (.ref l) H'
theorem ok_flagged {f cE cW cN o1 o2 o3 o4 o5 o6 o7 : Addr} {fd : FuncData} (F : Fun K "_law_flagged" "_law_flagged" sFlagged f fd) (T : Kinds mg cE cW cN o1 o2 o3 o4 o5 o6 o7) (mi : mg "isinstance" = none) :
    FnP P w K mg base 1 f fd ["e"] (spFlag K cE cW cN o1 o2 o3 o4 o5 o6 o7) := by
  refine WH.Fun.okP F scFlagged (fun a c d vs H Q E h => ?_) (fun cdv A outer s H vs Q E q c d got hr h => ?_)
  · obtain ⟨rfl, _⟩ := h
    rfl
  · obtain ⟨rfl, D, dd, v, b1, b2, rfl, rfl, T', hd, want⟩ := h
    have mem : q ∈ [q] := List.mem_cons_self
    refine ⟨_, (pss_cons (ps_set (i := 1) scFlagged.nd rfl (Or.inl rfl) (pe_callB (show CallR _ _ (rIsXT K q.1 (.ref D) (some dd)) from call_isPT mem got) (by rfl) mi (by decide +kernel) (pa_cons (pv 0) (pa_cons (pe_tup (pa_cons (pe_glob (v := .ref o1) rfl T.g1 rfl) (pa_cons (pe_glob (v := .ref o2) rfl T.g2 rfl) (pa_cons (pe_glob (v := .ref o3) rfl T.g3 rfl) (pa_cons (pe_glob (v := .ref o4) rfl T.g4 rfl) (pa_cons (pe_glob (v := .ref o5) rfl T.g5 rfl) (pa_cons (pe_glob (v := .ref o6) rfl T.g6 rfl) (pa_cons (pe_glob (v := .ref o7) rfl T.g7 rfl) pa_nil)))))))) pa_nil))))
      (pss_cons (ps_set (i := 2) scFlagged.nd rfl (Or.inl rfl) (pe_lst (pa_cons (pe_callB (show CallR _ _ (rIsX K q.1 (.ref D) (some dd)) from call_isP mem got) (by rfl) mi (by decide +kernel) (pa_cons (pv 0) (pa_cons (pe_glob (v := .ref cW) rfl T.gW rfl) pa_nil))) (pa_cons (pe_callB (show CallR _ _ (rIsX K q.1 (.ref D) (some dd)) from call_isP mem got) (by rfl) mi (by decide +kernel) (pa_cons (pv 0) (pa_cons (pe_glob (v := .ref cN) rfl T.gN rfl) pa_nil))) pa_nil))))
      (pss_one (ps_ret (pe_op op_cat (pv 2) (pe_lst (pa_cons (pe_or (pv 1) (pe_one (pe_not (pe_callB (show CallR _ _ (rIsX K q.1 (.ref D) (some dd)) from call_isP mem got) (by rfl) mi (by decide +kernel) (pa_cons (pv 0) (pa_cons (pe_bltn (v := .ty "ValueError") (by rfl) T.gV (by decide +kernel) rfl) pa_nil)))))) (pa_cons (pe_xp mem got (pv 0)) pa_nil)))))))), ?_⟩
    refine ⟨_, rfl, (by show 7 ≤ sizeLine; decide), fun tp ntp => ?_⟩
    have s1 := same_upd (o := .tup [.ref o1, .ref o2, .ref o3, .ref o4, .ref o5, .ref o6, .ref o7]) ntp
    have hd1 := s1 _ _ hd
    refine ⟨D, dd, tp, _, _, _, false, rfl, rfl, T'.ex, hd1, rfl, upd_same, .cons (.own o1) (.cons (.own o2) (.cons (.own o3) (.cons (.own o4) (.cons (.own o5) (.cons (.own o6) (.cons (.own o7) .nil)))))), T'.od, ?_⟩
    refine ⟨_, rfl, D, dd, _, .ref cW, _, b1, rfl, rfl, T'.ex, hd1, rfl, .own cW, T'.kW, ?_⟩
    refine ⟨_, rfl, D, dd, _, .ref cN, _, b2, rfl, rfl, T'.ex, hd1, rfl, .own cN, T'.kN, ?_⟩
    refine ⟨(by show 2 ≤ sizeLine; decide), fun fl nfl => ?_⟩
    have s2 := same_upd (o := .lst [.bl b1, .bl b2]) nfl
    have hd2 := s2 _ _ hd1
    refine ⟨_, rfl, _, rfl, false, rfl, iteF ?_⟩
    refine ⟨_, rfl, D, dd, _, .ty "ValueError", _, true, rfl, rfl, T'.ex, hd2, rfl, .ty "ValueError", T'.kV, true, rfl, ?_⟩
    refine ⟨_, rfl, D, dd, _, v, rfl, rfl, rfl, T'.xf, T'.nv, hd2, by simp [List.lookup], (by show 2 ≤ sizeLine; decide), fun l2 nl2 => ?_⟩
    have s3 := same_upd (o := .lst [.bl (!true), v]) nl2
    refine ⟨fl, l2, _, _, rfl, rfl, s3 _ _ upd_same, upd_same, (by show 2 + 2 ≤ sizeLine; decide), fun l nl => ?_⟩
    have s123 := (s1.trans s2).trans s3
    exact want l _ (s123.free nl) (s123.trans (same_upd nl)) upd_same
/-- what is caught -/
def Flt.b : Flt → Bool
  | .w _ => true
  | .n _ => false
def Flt.l (e : Flt) : List V := [.bl e.b, .bl (!e.b), .bl false, e.v]
def TellQ (H : Hp) (Q : VK) (o : Option Flt) : Prop := (o = none → ∀ H', Same H H' → Q .non H') ∧ ∀ e, o = some e → ∀ l H', H l = none → Same H H' → H' l = some (.lst e.l) → Q (.ref l) H'
theorem caught_err {cE cW cN o1 o2 o3 o4 o5 o6 o7 : Addr} {o : Option Flt} {x0 x1 x2 x3 x4 : Option V} {H : Hp} {Q : VK} {En : Ends} (TW : Tell K cE cW cN o1 o2 o3 o4 o5 o6 o7 cW true false) (TN : Tell K cE cW cN o1 o2 o3 o4 o5 o6 o7 cN false true)
    (q : TellQ H Q o) (hD : ∀ (y : V) (σ' : Sl) (H' : Hp), σ'[3]? = some (some y) → Q y H' → En.nx σ' H') :
    Errs cW cN o H (WE (wAs K (.ref cE) 4 (fun a cls d => tAsg (tCall (spFlag K cE cW cN o1 o2 o3 o4 o5 o6 o7 a cls d) [] E0 (tCons (tVar 4) tNil)) (gName 3)) (fun _ _ _ _ => False) En) [x0, x1, x2, x3, x4]) := by
  intro e he H1 s1 d H2 nd s2 hd
  cases e with
  | w x =>
    refine ⟨true, TW.exm, fun _ a na => ⟨_, rfl, rfl, cW, d, .str x, true, false, rfl, rfl, TW, hd, fun l H3 nl s3 h3 => ?_⟩, fun z => nomatch z⟩
    have s12 := s1.trans s2
    exact hD (.ref l) _ H3 rfl (q.2 _ he l H3 (s12.free nl) (s12.trans s3) h3)
  | n k =>
    refine ⟨true, TN.exm, fun _ a na => ⟨_, rfl, rfl, cN, d, .int k, false, true, rfl, rfl, TN, hd, fun l H3 nl s3 h3 => ?_⟩, fun z => nomatch z⟩
    have s12 := s1.trans s2
    exact hD (.ref l) _ H3 rfl (q.2 _ he l H3 (s12.free nl) (s12.trans s3) h3)
theorem scCaught : FnScope ["way", "made", "thing", "caught", "e"] ["way", "made", "thing"] (defScope sCaught) := ⟨rfl, rfl, rfl, by decide +kernel, rfl, by decide +kernel, by decide +kernel⟩
def spCaught (K : PySem.W.Frag) (C : Addr) : Sp := fun vs H Q _ => ∃ (way : Int) (m : Addr) (ws : List Str), StkAt C H m ws ∧ Good ws ∧
  ((∃ (a : Addr) (zs : List Str), vs = [.int way, .ref m, .ref a] ∧ 0 ≤ way ∧ way < 2 ∧ SqL K H a (zs.map V.str) ∧ zs.length ≤ 1000 ∧ (∀ x ∈ zs, x.length ≤ 100000) ∧ TellQ H Q (fl zs)) ∨
   (∃ x : Str, vs = [.int way, .ref m, .str x] ∧ 2 ≤ way ∧ x.length ≤ 100000 ∧ TellQ H Q (if way < 4 then fl (ws ++ [x]) else flo ws x)))
theorem ok_caught {f C fi fe fw cE cW cN o1 o2 o3 o4 o5 o6 o7 fFL fWI fWO : Addr} {fd fdi fdFL fdWI fdWO : FuncData} (F : Fun K "_law_caught" "_law_caught" sCaught f fd) (T : Kinds mg cE cW cN o1 o2 o3 o4 o5 o6 o7)
    (TW : Tell K cE cW cN o1 o2 o3 o4 o5 o6 o7 cW true false) (TN : Tell K cE cW cN o1 o2 o3 o4 o5 o6 o7 cN false true) (S : StkC K mg C fi fe fw)
    (FL : FnP P w K mg base 1 fFL fdFL ["e"] (spFlag K cE cW cN o1 o2 o3 o4 o5 o6 o7)) (bFL : Binds K fdFL ["e"] []) (kFL : PySem.W.keepIn K (.ref fFL) = true) (gFL : mg "_law_flagged" = some (.ref fFL))
    (Gi : FnOk P w K mg base (L2.CX P w) 4 fi fdi ["self", "words"] (spSInitX K C cW cN)) (bi : Binds K fdi ["self", "words"] []) (kbi : KBn K fdi ["self", "words"] 1 ["words"] (fun us ws => us ++ ws) (fun us ws => us ++ ws))
    (WI : CalX P w K mg base 6 "with_word" ["stock", "word"] (spWithX C cW cN) fWI fdWI) (kbI : KBinds K fdWI ["stock", "word"] ["word", "stock"] gTurn gTurn)
    (WO : CalX P w K mg base 6 "without_word" ["stock", "word"] (spWithoutX C cW cN) fWO fdWO) (kbO : KBinds K fdWO ["stock", "word"] ["word", "stock"] gTurn gTurn) :
    FnOk P w K mg base CX0 7 f fd ["way", "made", "thing"] (spCaught K C) := by
  refine F.ok scCaught (fun vs H Q E h => ?_) (fun cdv A outer s H vs Q E hr h => ?_)
  · obtain ⟨way, m, ws, _, _, ⟨a, zs, rfl, _⟩ | ⟨x, rfl, _⟩⟩ := h <;> rfl
  · have hr6 : Room 6 _ := hr
    have hr5 : Room 5 _ := hr.mono (by decide)
    have hr1 : Room 1 _ := hr.mono (by decide)
    refine ⟨_, (pss_cons (ps_set (i := 3) scCaught.nd rfl (Or.inl rfl) pe_non)
      (pss_cons (ps_try_as (i := 4) (Wout := fun _ _ _ _ => False) rfl rfl scCaught.nd rfl rfl ⟨rfl, by decide, Or.inl T.gE⟩ takes0
      (fun W pn xe tk _ => (pss_one (ps_if (pt_cmpR op_eq (pv 0) pe_int (nomark _)) (pss_one (ps_expr (pe_makeS (E := WE W) S.made Gi hr5 (by rfl) S.mgC bi (fun σ => passAt tk σ) (pa_cons (pv 2) pa_nil)))) (pss_one (ps_if (pt_cmpR op_eq (pv 0) pe_int (nomark _)) (pss_one (ps_expr (pe_makeK0S (E := WE W) S.made Gi hr5 (by rfl) S.mgC kbi (fun σ => passAt tk σ) (pk_cons (pv 2) pk_nil)))) (pss_one (ps_if (pt_cmpR op_eq (pv 0) pe_int (nomark _)) (pss_one (ps_expr (pe_callS WI.G hr6 (by rfl) WI.g WI.k WI.b (fun σ => passAt tk σ) (pa_cons (pv 1) (pa_cons (pv 2) pa_nil))))) (pss_one (ps_if (pt_cmpR op_eq (pv 0) pe_int (nomark _)) (pss_one (ps_expr (pe_callK0S (E := WE W) WI.G hr6 (by rfl) WI.g WI.k kbI (fun σ => passAt tk σ) (pk_cons (pv 2) (pk_cons (pv 1) pk_nil))))) (pss_one (ps_if (pt_cmpR op_eq (pv 0) pe_int (nomark _)) (pss_one (ps_expr (pe_callS WO.G hr6 (by rfl) WO.g WO.k WO.b (fun σ => passAt tk σ) (pa_cons (pv 1) (pa_cons (pv 2) pa_nil))))) (pss_one (ps_expr (pe_callK0S (E := WE W) WO.G hr6 (by rfl) WO.g WO.k kbO (fun σ => passAt tk σ) (pk_cons (pv 2) (pk_cons (pv 1) pk_nil))))))))))))))))
      (fun a oe cls d pn hz hf => pss_one (ps_set (i := 3) scCaught.nd rfl (Or.inl rfl) (pe_callP FL (ob := oe) List.mem_cons_self ⟨hz, hf⟩ (roomH_of hr1 _) (by rfl) gFL kFL bFL (pa_cons (pv 4) pa_nil)))))
      (pss_one (ps_ret (pv 3))))), ?_⟩
    obtain ⟨way, m, ws, st, g, ⟨a, zs, rfl, w0, w2, hS, hl, hx, tq⟩ | ⟨x, rfl, w2, hx, tq⟩⟩ := h
    · by_cases c0 : way = 0
      · refine ⟨_, rfl, rfl, _, rfl, ?_⟩
        rw [decide_eq_true (congrArg V.int c0)]
        refine iteT ?_
        refine ⟨_, rfl, ?_⟩
        intro r dx nr ndx nex
        exact ⟨r, dx, a, zs, rfl, upd_same, (mk_s0 nr ndx).seq hS, hl, hx, Errs.same (H := H) (by exact caught_err TW TN tq fun y σ' H' h4 hq => ⟨y, h4, hq⟩) (mk_s0 nr ndx), fun ok H' st' kp => ⟨rfl, _, rfl, tq.1 ok H' (mk_same nr ndx kp)⟩⟩
      · refine ⟨_, rfl, rfl, _, rfl, ?_⟩
        rw [decide_eq_false (fun h => c0 (V.int.inj h))]
        refine iteF ?_
        refine ⟨_, rfl, rfl, _, rfl, ?_⟩
        rw [decide_eq_true (congrArg V.int (show way = 1 by omega))]
        refine iteT ?_
        refine ⟨_, rfl, rfl, ?_⟩
        intro r dx nr ndx nex
        exact ⟨r, dx, a, zs, rfl, upd_same, (mk_s0 nr ndx).seq hS, hl, hx, Errs.same (H := H) (by exact caught_err TW TN tq fun y σ' H' h4 hq => ⟨y, h4, hq⟩) (mk_s0 nr ndx), fun ok H' st' kp => ⟨rfl, _, rfl, tq.1 ok H' (mk_same nr ndx kp)⟩⟩
    · refine ⟨_, rfl, rfl, _, rfl, ?_⟩
      rw [decide_eq_false (fun h => (show ¬ way = 0 by omega) (V.int.inj h))]
      refine iteF ?_
      refine ⟨_, rfl, rfl, _, rfl, ?_⟩
      rw [decide_eq_false (fun h => (show ¬ way = 1 by omega) (V.int.inj h))]
      refine iteF ?_
      by_cases c2 : way = 2
      · refine ⟨_, rfl, rfl, _, rfl, ?_⟩
        rw [decide_eq_true (congrArg V.int c2)]
        refine iteT ?_
        rw [if_pos (by omega)] at tq
        exact ⟨_, rfl, _, rfl, m, ws, x, rfl, st, g, hx, (caught_err TW TN tq fun y σ' H' h4 hq => ⟨y, h4, hq⟩), fun ok r H' nr s' st' => ⟨_, rfl, tq.1 ok H' s'⟩⟩
      refine ⟨_, rfl, rfl, _, rfl, ?_⟩
      rw [decide_eq_false (fun h => c2 (V.int.inj h))]
      refine iteF ?_
      by_cases c3 : way = 3
      · refine ⟨_, rfl, rfl, _, rfl, ?_⟩
        rw [decide_eq_true (congrArg V.int c3)]
        refine iteT ?_
        rw [if_pos (by omega)] at tq
        exact ⟨_, rfl, _, rfl, m, ws, x, rfl, st, g, hx, (caught_err TW TN tq fun y σ' H' h4 hq => ⟨y, h4, hq⟩), fun ok r H' nr s' st' => ⟨_, rfl, tq.1 ok H' s'⟩⟩
      refine ⟨_, rfl, rfl, _, rfl, ?_⟩
      rw [decide_eq_false (fun h => c3 (V.int.inj h))]
      refine iteF ?_
      rw [if_neg (by omega)] at tq
      by_cases c4 : way = 4
      · refine ⟨_, rfl, rfl, _, rfl, ?_⟩
        rw [decide_eq_true (congrArg V.int c4)]
        refine iteT ?_
        exact ⟨_, rfl, _, rfl, m, ws, x, rfl, st, g, hx, (caught_err TW TN tq fun y σ' H' h4 hq => ⟨y, h4, hq⟩), fun ok r H' nr s' st' => ⟨_, rfl, tq.1 ok H' s'⟩⟩
      · refine ⟨_, rfl, rfl, _, rfl, ?_⟩
        rw [decide_eq_false (fun h => c4 (V.int.inj h))]
        refine iteF ?_
        exact ⟨_, rfl, _, rfl, m, ws, x, rfl, st, g, hx, (caught_err TW TN tq fun y σ' H' h4 hq => ⟨y, h4, hq⟩), fun ok r H' nr s' st' => ⟨_, rfl, tq.1 ok H' s'⟩⟩
end

end WH
namespace WH
open PySem PySem.Spec PyProof.Rows L2
def IsOut (o : Option (List V)) (y : V) (H : Hp) : Prop := (o = none ∧ y = .non) ∨ ∃ c l, o = some c ∧ y = .ref l ∧ H l = some (.lst c)
theorem IsOut.same {o : Option (List V)} {y : V} {H H' : Hp} (h : IsOut o y H) (s : Same H H') : IsOut o y H' := h.elim .inl fun ⟨c, l, h1, h2, h3⟩ => .inr ⟨c, l, h1, h2, s _ _ h3⟩
/-- what is told of a fault, at a value -/
def IsF (o : Option Flt) (y : V) (H : Hp) : Prop := IsOut (o.map Flt.l) y H
theorem IsF.same {o : Option Flt} {y : V} {H H' : Hp} (h : IsF o y H) (s : Same H H') : IsF o y H' := IsOut.same h s
theorem tell_is {H : Hp} {Q : VK} {o : Option Flt} (h : ∀ y H', Same H H' → IsF o y H' → Q y H') : TellQ H Q o :=
  ⟨fun e H' s => h .non H' s (.inl ⟨by rw [e]; rfl, rfl⟩), fun e he l H' _ s hl => h (.ref l) H' s (.inr ⟨_, l, by rw [he]; rfl, rfl, hl⟩)⟩
def Flt.d : Flt → PyData
  | .w x => .list [.bool true, .bool false, .bool false, .str x]
  | .n k => .list [.bool false, .bool true, .bool false, .int k]
def dF : Option Flt → PyData
  | none => .none
  | some e => e.d
theorem dp_F {K : PySem.W.Frag} {H : Hp} {o : Option Flt} {y : V} (h : IsF o y H) : Dp K H y (dF o) := by
  cases o with
  | none =>
    rcases h with ⟨_, rfl⟩ | ⟨c, l, h1, _⟩
    · exact .non
    · cases h1
  | some e =>
    rcases h with ⟨h1, _⟩ | ⟨c, l, h1, rfl, h3⟩
    · cases h1
    · obtain rfl := Option.some.inj h1
      cases e with
      | w x => exact .lst (SqL.of h3) (.cons (.bl _) (.cons (.bl _) (.cons (.bl _) (.cons (.str _) .nil))))
      | n k => exact .lst (SqL.of h3) (.cons (.bl _) (.cons (.bl _) (.cons (.bl _) (.cons (.int _) .nil))))
theorem Sm.non : Sm .none 0 0 := ⟨by simp [PyData.showable], by simp [PyData.hasDict], by simp [PyData.depth], by decide +kernel, by simp [PyData.weight], by simp [PyData.canLay0]⟩
def FltOk : Option Flt → Prop
  | none => True
  | some (.w x) => PyData.strOk x = true ∧ x.length ≤ 100
  | some (.n k) => k.natAbs < 2 ^ 200
theorem sm_F {o : Option Flt} (h : FltOk o) : Sm (dF o) 1 300 := by
  match o, h with
  | none, _ => exact Sm.non.mono (by decide) (by decide)
  | some (.w x), h => exact (Sm.list (SmA.cons (Sm.bool _) (SmA.cons (Sm.bool _) (SmA.cons (Sm.bool _) (SmA.cons (Sm.str h.1 h.2) SmA.nil))))).mono (by decide) (by decide)
  | some (.n k), h => exact (Sm.list (SmA.cons (Sm.bool _) (SmA.cons (Sm.bool _) (SmA.cons (Sm.bool _) (SmA.cons (Sm.int h) SmA.nil))))).mono (by decide) (by decide)
/-- two of them in a list, to be shown -/
theorem two_F {K : PySem.W.Frag} {H : Hp} {a : Addr} {o : Option Flt} {x y : V} (ok : FltOk o) (h : H a = some (.lst [x, y])) (hx : IsF o x H) (hy : IsF o y H) :
    Dp K H (.ref a) (.list [dF o, dF o]) ∧ (PyData.list [dF o, dF o]).showable = true ∧ (PyData.list [dF o, dF o]).hasDict = false ∧ (PyData.list [dF o, dF o]).depth ≤ 60 ∧ (PyData.list [dF o, dF o]).shown.length ≤ sizeLine :=
  (Sm.two (sm_F ok)).repr (by decide) (by decide) (.lst (SqL.of h) (.cons (dp_F hx) (.cons (dp_F hy) .nil)))
theorem fltGo_mem : ∀ {r seen : List Str} {x : Str}, fltGo seen r = some x → x ∈ r
  | [], _, _, h => by cases h
  | y :: r, seen, x, h => by
    unfold fltGo at h
    split at h
    · exact List.mem_cons_of_mem _ (fltGo_mem h)
    · exact (Option.some.inj h) ▸ List.mem_cons_self
theorem fl_okF {ws : List Str} (sok : SOk ws) (hl : ∀ x ∈ ws, x.length ≤ 100) (hn : ws.length ≤ 1000) : FltOk (fl ws) := by
  unfold fl
  cases e : fltGo [] ws with
  | some x => exact ⟨sok x (fltGo_mem e), hl x (fltGo_mem e)⟩
  | none =>
    show FltOk (if _ then none else _)
    split
    · trivial
    · show (((ws.length : Nat) : Int)).natAbs < 2 ^ 200
      have e : (1000 : Nat) < 2 ^ 200 := by decide +kernel
      omega
theorem str_of_list {a b : Str} (h : a.cps.toList = b.cps.toList) : a = b := by
  cases a
  cases b
  simp at h
  subst h
  rfl
section
variable {P : Program} {w : World} {K : PySem.W.Frag} {mg : Str → Option Value} {base : Heap}
theorem scFault : FnScope ["lot", "at", "fresh", "strange", "sign"] ["lot"] (defScope sFault) := ⟨rfl, rfl, rfl, by decide +kernel, rfl, by decide +kernel, by decide +kernel⟩
/-- the signs of a text that are no letters -/
def sgn1 (z : Str) (i : Nat) : Option Str := if z.cps.getD i 0 ∈ LET.cps.toList then none else some ⟨#[z.cps.getD i 0]⟩
def sgns (z : Str) : List Str := (List.range z.cps.size).filterMap (sgn1 z)
theorem sgns_fmr (z : Str) : fmr (fun i => (sgn1 z i).map V.str) z.cps.size = (sgns z).map V.str := by
  unfold fmr sgns
  rw [List.map_filterMap]
theorem sgns_nil {z : Str} : sgns z = [] ↔ isL z = true := by
  rw [isL_iff]
  unfold sgns
  rw [List.filterMap_eq_nil_iff]
  constructor
  · intro h c hc
    obtain ⟨i, hi, rfl⟩ := List.mem_iff_getElem.mp hc
    have hi' : i < z.cps.size := by simpa using hi
    have := h i (List.mem_range.mpr hi')
    have e : z.cps.getD i 0 = z.cps.toList[i] := by
      simp [Array.getD, hi']
    rw [← e]
    by_cases c : z.cps.getD i 0 ∈ LET.cps.toList
    · exact c
    · unfold sgn1 at this
      rw [if_neg c] at this
      exact absurd this (Option.some_ne_none _)
  · intro h i hi
    have hi' : i < z.cps.size := List.mem_range.mp hi
    unfold sgn1
    rw [if_pos]
    refine h _ ?_
    have e : z.cps.getD i 0 = z.cps.toList[i]'(by simpa using hi') := by
      simp [Array.getD, hi']
    rw [e]
    exact List.getElem_mem _
theorem sok_sign {z : Str} (h : PyData.strOk z = true) : SOk (sgns z) := by
  intro x hx
  unfold sgns at hx
  obtain ⟨i, hi, e⟩ := List.mem_filterMap.mp hx
  have hi' : i < z.cps.size := List.mem_range.mp hi
  unfold sgn1 at e
  by_cases c : z.cps.getD i 0 ∈ LET.cps.toList
  · rw [if_pos c] at e
    exact absurd e.symm (Option.some_ne_none _)
  · rw [if_neg c] at e
    have ex := Option.some.inj e
    rw [← ex]
    unfold PyData.strOk at h ⊢
    rw [← Array.all_toList, List.all_eq_true] at h ⊢
    intro c hc
    have ec : c = z.cps.getD i 0 := by
      have := List.mem_singleton.mp (show c ∈ [z.cps.getD i 0] from hc)
      exact this
    refine h c ?_
    rw [ec]
    have e : z.cps.getD i 0 = z.cps.toList[i]'(by simpa using hi') := by
      simp [Array.getD, hi']
    rw [e]
    exact List.getElem_mem _
def spFault (K : PySem.W.Frag) : Sp := fun vs H Q _ => ∃ (a : Addr) (ws : List Str), vs = [.ref a] ∧ SqL K H a (ws.map V.str) ∧ ws.length ≤ 1000 ∧ (∀ x ∈ ws, x.length ≤ 100000) ∧ SOk ws ∧ TellQ H Q (fl ws)
theorem ok_fault {f : Addr} {fd : FuncData} (F : Fun K "_law_fault" "_law_fault" sFault f fd) (B : Bu mg) (Be : mg "enumerate" = none) : FnOk P w K mg base CX0 1 f fd ["lot"] (spFault K) := by
  refine F.ok scFault (fun vs H Q E h => ?_) (fun cdv A outer s H vs Q E hr h => ?_)
  · obtain ⟨a, ws, rfl, _⟩ := h
    rfl
  · obtain ⟨a, ws, rfl, hS, hl, hx8, sok, q⟩ := h
    refine ⟨_, (pss_cons (ps_for PassesOwn.never rfl (pi_enum (by rfl) Be (pa_cons (pv 0) pa_nil)) (pg_tup rfl (pgs_cons (pg_name (i := 1) scFault.nd rfl (Or.inl rfl)) (pgs_cons (pg_name (i := 2) scFault.nd rfl (Or.inl rfl)) pgs_nil))) (pss_cons (ps_setLc (i := 3) (own := [("sign", 4)]) (g := gName 4) rfl scFault.nd rfl rfl (sw_true rfl rfl rfl (by decide +kernel)) (pi_str (pv 2)) (blkOk_by (N := ["lot", "at", "fresh", "strange", "sign"]) (sc := defScope sFault) (by decide +kernel)) (fun _ _ _ _ _ => pg_name (i := 4) scFault.nd rfl (Or.inl rfl)) (fun _ _ _ _ _ => (pts_one (pt_cmpR op_notIn_sign (pv 4) pe_str rfl))) (fun _ _ _ _ _ => (pv 4)))
      (pss_one (ps_if (PW.pt (pw_or (pt_not (pt_chain op_lt op_lt pe_int (pe_callB call_len_str (by rfl) B.len (by decide +kernel) (pa_cons (pv 2) pa_nil)) pe_int)) (pw_or (pt_cmpR (op_neD hr.units) (pv 3) (pe_lst pa_nil) (nomark _)) (pw_or1 (pt_cmpR op_in_seq (pv 2) (pe_slice sl_list (pv 0) po_none (po_some (pv 1))) rfl))))) (pss_one (ps_ret (pe_lst (pa_cons pe_bl (pa_cons pe_bl (pa_cons pe_bl (pa_cons (pv 2) pa_nil))))))) pss_nil))))
      (pss_one (ps_ret (pe_ifExp (pt_chain op_lt op_lt pe_int (pe_callB call_len_seq (by rfl) B.len PySem.boot_len (pa_cons (pv 0) pa_nil)) pe_int) pe_non (pe_lst (pa_cons pe_bl (pa_cons pe_bl (pa_cons pe_bl (pa_cons (pe_callB call_len_seq (by rfl) B.len PySem.boot_len (pa_cons (pv 0) pa_nil)) pa_nil))))))))), ?_⟩
    refine ⟨_, rfl, a, _, rfl, hS, ?_⟩
    refine for_it walk_enum (fun i σ H' => ∃ (v1 v2 v3 : Option V), σ = [some (.ref a), v1, v2, v3, none] ∧ Same H H' ∧ fltGo [] ws = fltGo (ws.take i) (ws.drop i))
      ⟨none, none, none, rfl, Same.refl _, rfl⟩ (fun i σ H' _ ⟨_, _, _, _, s', _⟩ => s'.seq hS) ?_ ?_
    · rintro i x σ H5 H6 hi ⟨v1, v2, v3, rfl, s5, hgo⟩ ⟨T, x', y, rfl, hT, rfl, hx', hy⟩
      obtain rfl : V.int (i : Nat) = x' := Option.some.inj hx'
      obtain ⟨v, hv, rfl⟩ := map_at hy
      have hvs : v.length ≤ 100000 := hx8 v (List.mem_of_getElem? hv)
      have vok := sok v (List.mem_of_getElem? hv)
      obtain ⟨g1, g2⟩ := fltGo_step hv hgo
      refine ⟨T, _, rfl, SqT.of upd_same, rfl, _, _, rfl, ?_⟩
      refine ⟨_, _, rfl, rfl, ?_⟩
      have sT := same_upd (o := .tup [V.int (i : Nat), V.str v]) hT
      have s6 := s5.trans sT
      generalize upd H5 T (.tup [V.int (i : Nat), V.str v]) = H6 at sT s6 ⊢
      refine ⟨.str v, rfl, v, rfl, fun D hD => ?_⟩
      refine lc_fm walk_str (fun j => (sgn1 v j).map V.str) (Nat.lt_of_le_of_lt hvs (by decide)) hD (fun _ _ => trivial) ?_ ?_
      · rintro j x Ha Hb N hj sa ⟨rfl, c, hc, rfl⟩ hN
        refine ⟨rfl, _, rfl, c, LET, rfl, rfl, _, rfl, ?_⟩
        have := hN Hb (Same.refl _)
        unfold sgn1 at this
        rw [getD_at hj hc] at this
        by_cases hm : c ∈ LET.cps.toList
        · rw [if_pos hm] at this
          rw [decide_eq_true hm]
          exact iteF this
        · rw [if_neg hm] at this
          rw [decide_eq_false hm]
          exact iteT ⟨_, rfl, this⟩
      intro H7 s7 h7
      rw [sgns_fmr] at h7
      have hvz : v.length ≤ sizeLine := Nat.le_trans hvs (by decide)
      have s67 := s6.trans s7
      refine ⟨_, rfl, v, rfl, hvz, _, _, rfl, rfl, _, rfl, ?_⟩
      by_cases c0 : (0 : Int) < (v.length : Int)
      case neg =>
        rw [decide_eq_false c0]
        refine iteF ⟨_, rfl, iteT (iteT ?_)⟩
        refine ⟨_, rfl, (by show 4 ≤ sizeLine; decide), fun l nl => q.2 _ (g2 fun c => ?_) l _ (s67.free nl) (s67.trans (same_upd nl)) upd_same⟩
        have := (isW_len c.1).1
        omega
      rw [decide_eq_true c0]
      refine iteT ?_
      refine ⟨_, _, rfl, rfl, _, rfl, ?_⟩
      by_cases c9 : (v.length : Int) < 9
      case neg =>
        rw [decide_eq_false c9]
        refine iteT (iteT ?_)
        refine ⟨_, rfl, (by show 4 ≤ sizeLine; decide), fun l nl => q.2 _ (g2 fun c => ?_) l _ (s67.free nl) (s67.trans (same_upd nl)) upd_same⟩
        have := (isW_len c.1).2
        omega
      rw [decide_eq_true c9]
      refine iteF ?_
      refine ⟨_, rfl, (by show 0 ≤ sizeLine; decide), fun e ne => ?_⟩
      have se := same_upd (o := .lst []) ne
      have s6e := s67.trans se
      refine ⟨_, _, dp_lst (SqL.of (se _ _ h7)), dp_lst (ws := []) (SqL.of upd_same), sh_lst (sok_sign vok), sh_lst (ws := []) (fun x h => by simp at h), _, rfl, ?_⟩
      rw [eqv_lst]
      by_cases cL : sgns v = []
      case neg =>
        rw [decide_eq_false cL]
        refine iteT (iteT ?_)
        refine ⟨_, rfl, (by show 4 ≤ sizeLine; decide), fun l nl => q.2 _ (g2 fun c => ?_) l _ (s6e.free nl) (s6e.trans (same_upd nl)) upd_same⟩
        refine cL (sgns_nil.mpr ?_)
        have := c.1
        unfold isW at this
        simp only [Bool.and_eq_true] at this
        exact this.2
      rw [decide_eq_true cL]
      refine iteF ?_
      refine ⟨_, rfl, _, rfl, _, rfl, _, rfl, a, _, rfl, s6e.seq hS, fun p np => ?_⟩
      have ec : cutV (ws.map V.str) none (some ((i : Nat) : Int)) = (ws.take i).map V.str := by rw [cut_take, List.map_take]
      rw [ec]
      have sp := same_upd (o := .lst ((ws.take i).map V.str)) np
      have s6p := s6e.trans sp
      refine ⟨p, _, rfl, .inl (SqL.of upd_same), rfl, flat_strs _, _, rfl, ?_⟩
      rw [inV_strs]
      by_cases cm : v ∈ ws.take i
      case pos =>
        rw [decide_eq_true cm]
        refine iteT ?_
        exact ⟨_, rfl, (by show 4 ≤ sizeLine; decide), fun l nl => q.2 _ (g2 fun c => c.2 cm) l _ (s6p.free nl) (s6p.trans (same_upd nl)) upd_same⟩
      rw [decide_eq_false cm]
      refine iteF ?_
      have hw : isW v = true := by
        unfold isW
        rw [decide_eq_true (show 1 ≤ v.length by omega), decide_eq_true (show v.length ≤ 8 by omega), sgns_nil.mp cL]
        rfl
      exact ⟨_, _, _, rfl, s6p, g1 ⟨hw, cm⟩⟩
    · rintro σ H5 ⟨v1, v2, v3, rfl, s5, hgo⟩
      have hgo' : fltGo [] ws = none := by
        rw [List.length_map] at hgo
        rw [hgo, List.drop_length]
        rfl
      refine ⟨_, rfl, a, _, rfl, .inl (s5.seq hS), _, _, rfl, rfl, _, rfl, ?_⟩
      rw [List.length_map]
      by_cases c0 : (0 : Int) < ((ws.length : Nat) : Int)
      · rw [decide_eq_true c0]
        refine iteT ?_
        refine ⟨_, _, rfl, rfl, _, rfl, ?_⟩
        by_cases c9 : ((ws.length : Nat) : Int) < 9
        · rw [decide_eq_true c9]
          refine iteT ?_
          exact q.1 (fl_ok hgo' ⟨by omega, by omega⟩) _ s5
        · rw [decide_eq_false c9]
          refine iteF ?_
          refine ⟨_, rfl, a, _, rfl, .inl (s5.seq hS), ?_⟩
          rw [List.length_map]
          exact ⟨(by show 4 ≤ sizeLine; decide), fun l nl => q.2 _ (fl_num hgo' (by omega)) l _ (s5.free nl) (s5.trans (same_upd nl)) upd_same⟩
      · rw [decide_eq_false c0]
        refine iteF ⟨_, rfl, iteF ?_⟩
        refine ⟨_, rfl, a, _, rfl, .inl (s5.seq hS), ?_⟩
        rw [List.length_map]
        exact ⟨(by show 4 ≤ sizeLine; decide), fun l nl => q.2 _ (fl_num hgo' (by omega)) l _ (s5.free nl) (s5.trans (same_upd nl)) upd_same⟩
theorem scOdd : FnScope ["pool", "lot", "odds"] ["pool", "lot"] (defScope sOdd) := ⟨rfl, rfl, rfl, by decide +kernel, rfl, by decide +kernel, by decide +kernel⟩
def ODDS : List Str := ["", "A", "a b", "a1", "abcdefghi", "abcdefgh", "~", "\n", "q", "aa"]
theorem odds_ok : ∀ x ∈ ODDS, x.length ≤ 9 ∧ PyData.strOk x = true := by decide +kernel
def spOdd : Sp := fun vs H Q _ => ∃ (p l : Addr) (n : Int) (ws : List Str), vs = [.ref p, .ref l] ∧ PoolAt H p n ∧ n < 900000 ∧ H l = some (.lst (ws.map V.str)) ∧ ws.length ≤ 1000 ∧ ∀ x H', x ∈ ODDS ++ ws → PoolAt H' p (n + 1) → SameBut p H H' → Q (.str x) H'
theorem ok_odd {f fD : Addr} {fd fdD : FuncData} (F : Fun K "_law_odd" "_law_odd" sOdd f fd) (B : Bu mg) (D : Cal P w K mg base 1 "_law_draw" ["pool", "span"] spDraw fD fdD) : FnOk P w K mg base CX0 2 f fd ["pool", "lot"] spOdd := by
  refine F.ok scOdd (fun vs H Q E h => ?_) (fun cdv A outer s H vs Q E hr h => ?_)
  · obtain ⟨p, l, n, ws, rfl, _⟩ := h
    rfl
  · obtain ⟨p, l, n, ws, rfl, hp, hn, hl, hw, q⟩ := h
    have hr1 : Room 1 _ := hr
    refine ⟨_, (pss_cons (ps_set (i := 2) scOdd.nd rfl (Or.inl rfl) (pe_op op_cat (pe_lst (pa_cons pe_str (pa_cons pe_str (pa_cons pe_str (pa_cons pe_str (pa_cons pe_str (pa_cons pe_str (pa_cons pe_str (pa_cons pe_str (pa_cons pe_str (pa_cons pe_str pa_nil))))))))))) (pv 1)))
      (pss_one (ps_ret (pe_ix ix_list (pv 2) (pe_call D.G hr1 (by rfl) D.g D.k D.b .nil pass0 (pa_cons (pv 0) (pa_cons (pe_callB call_len_seq (by rfl) B.len PySem.boot_len (pa_cons (pv 2) pa_nil)) pa_nil))) (fun _ _ => rfl))))), ?_⟩
    refine ⟨(by show 10 ≤ sizeLine; decide), fun a na => ?_⟩
    have sa := same_upd (o := .lst (ODDS.map V.str)) na
    refine ⟨_, rfl, a, l, _, _, rfl, rfl, upd_same, sa _ _ hl, Nat.le_trans (show 10 + (ws.map V.str).length ≤ 1010 by rw [List.length_map]; omega) (by decide), fun b nb => ?_⟩
    have sb := same_upd (o := .lst (ODDS.map V.str ++ ws.map V.str)) nb
    have hb : (upd (upd H a (.lst (ODDS.map V.str))) b (.lst (ODDS.map V.str ++ ws.map V.str))) b = some (.lst ((ODDS ++ ws).map V.str)) := by
      rw [upd_same, List.map_append]
    have hpb := (hp.same sa).same sb
    have npb : b ≠ p := ((hp.same sa).ne nb).symm
    refine ⟨_, rfl, _, rfl, _, rfl, b, _, rfl, .inl (SqL.of hb), p, _, _, rfl, hpb, by omega, ?_, ?_, fun e H1 e0 e1 hp1 b1 => ?_⟩
    · rw [List.length_map, List.length_append]
      show (0 : Int) < ((10 + ws.length : Nat) : Int)
      omega
    · rw [List.length_map, List.length_append]
      show ((10 + ws.length : Nat) : Int) < _
      omega
    · rw [List.length_map] at e1
      obtain ⟨x, hx, hm, _⟩ := at_strs (ss := ODDS ++ ws) e0 e1
      exact ⟨b, _, _, _, rfl, rfl, SqL.of (b1 _ _ npb hb), hx, q x H1 hm hp1 ((Same.but (sa.trans sb)).trans b1)⟩
end

end WH
namespace WH
open PySem PySem.Spec PyProof.Rows L2
def BentOk (ys : List Str) : Prop := ys.length ≤ 30 ∧ SOk ys ∧ ∀ x ∈ ys, x.length ≤ 10
theorem BentOk.app {a b : List Str} (h1 : SOk a ∧ ∀ x ∈ a, x.length ≤ 10) (h2 : SOk b ∧ ∀ x ∈ b, x.length ≤ 10) (hl : a.length + b.length ≤ 30) : BentOk (a ++ b) :=
  ⟨by rw [List.length_append]; exact hl, fun x hx => (List.mem_append.mp hx).elim (h1.1 x) (h2.1 x), fun x hx => (List.mem_append.mp hx).elim (h1.2 x) (h2.2 x)⟩
theorem BentOk.nil : BentOk [] := ⟨by decide, fun x h => by simp at h, fun x h => by simp at h⟩
theorem BentOk.flt {ys : List Str} (h : BentOk ys) : FltOk (fl ys) := fl_okF h.2.1 (fun x hx => Nat.le_trans (h.2.2 x hx) (by decide)) (Nat.le_trans h.1 (by decide))
theorem xyz_let : ∀ c ∈ ("xyz" : Str).cps.toList, c ∈ LET.cps.toList := by decide +kernel
def KS : List Str := ["ka", "kb", "kc", "kd", "ke", "kf", "kg", "kh"]
theorem ks_ok : ∀ x ∈ KS, PyData.strOk x = true ∧ x.length ≤ 10 := by decide +kernel
theorem flo_good {ws : List Str} {x : Str} (g : Good ws) : flo ws x = if x ∈ ws then (if ws = [x] then some (.n 0) else none) else some (.w x) := by
  unfold flo
  by_cases h : x ∈ ws
  · rw [if_pos h, if_pos h]
    by_cases e : ws = [x]
    · rw [if_pos e, e]
      have : wout [x] x = [] := by
        unfold wout
        simp
      rw [this]
      rfl
    · rw [if_neg e]
      refine good_fl (good_wout g ?_)
      cases hw : wout ws x with
      | cons y r => exact Nat.le_add_left 1 _
      | nil =>
        have all : ∀ y ∈ ws, y = x := fun y hy => Classical.byContradiction fun c => by
          have := wout_mem.mpr ⟨hy, c⟩
          rw [hw] at this
          simp at this
        refine absurd ?_ e
        match ws, g.nd, all, g.lo with
        | [y], _, all, _ => rw [all y List.mem_cons_self]
        | y :: z :: r, nd, all, _ =>
          have h1 := all y List.mem_cons_self
          have h2 := all z (List.mem_cons_of_mem _ List.mem_cons_self)
          have := (List.nodup_cons.mp nd).1
          rw [h1, h2] at this
          simp at this
  · rw [if_neg h, if_neg h]
theorem insert_map (ys : List Str) (k : Nat) (x : Str) : ∃ zs : List Str, ((ys.map V.str).take k ++ [V.str x] ++ (ys.map V.str).drop k) = zs.map V.str ∧ zs.length = ys.length + 1 ∧ ∀ y ∈ zs, y ∈ ys ∨ y = x := by
  refine ⟨ys.take k ++ x :: ys.drop k, by simp, ?_, fun y hy => ?_⟩
  · simp only [List.length_append, List.length_cons, List.length_take, List.length_drop]
    omega
  · rcases List.mem_append.mp hy with h | h
    · exact .inl (List.mem_of_mem_take h)
    · rcases List.mem_cons.mp h with h | h
      · exact .inr h
      · exact .inl (List.mem_of_mem_drop h)
section
variable {P : Program} {w : World} {K : PySem.W.Frag} {mg : Str → Option Value} {base : Heap}
theorem scFits : FnScope ["pool", "lot", "made", "turn", "odd", "bent", "kept", "due", "extra", "sign"] ["pool"] (defScope sFits) := ⟨rfl, rfl, rfl, by decide +kernel, rfl, by decide +kernel, by decide +kernel⟩
def spFits : Sp := fun vs H Q _ => ∃ (p : Addr) (n : Int), vs = [.ref p] ∧ PoolAt H p n ∧ n < 700000 ∧ ∀ H', PoolAt H' p (n + 1000) → SameBut p H H' → Q (.bl true) H'
theorem ok_fits {f C fi fe fw fD fW fL fO fFA fCA : Addr} {fd fdi fdw fdD fdW fdL fdO fdFA fdCA : FuncData} (F : Fun K "_law_fits" "_law_fits" sFits f fd) (B : BuX mg) (T : StkC K mg C fi fe fw)
    (Gi : FnOk P w K mg base CX0 4 fi fdi ["self", "words"] (spSInit K C)) (bi : Binds K fdi ["self", "words"] []) (Gw : FnOk P w K mg base CX0 1 fw fdw ["self"] (spSWords C)) (bw : Binds K fdw ["self"] [])
    (D : Cal P w K mg base 1 "_law_draw" ["pool", "span"] spDraw fD fdD) (WD : Cal P w K mg base 2 "_law_word" ["pool", "widest", "signs"] spWord fW fdW) (L : Cal P w K mg base 3 "_law_lot" ["pool", "many", "widest"] spLot fL fdL)
    (OD : Cal P w K mg base 2 "_law_odd" ["pool", "lot"] spOdd fO fdO) (FA : Cal P w K mg base 1 "_law_fault" ["lot"] (spFault K) fFA fdFA) (CA : Cal P w K mg base 7 "_law_caught" ["way", "made", "thing"] (spCaught K C) fCA fdCA) :
    FnG P w K mg base CX0 8 f fd ["pool"] spFits := by
  refine WH.Fun.okG F scFits (fun vs H Q E h => ?_) (fun cdv A outer s H vs Q E hr hG h => ?_)
  · obtain ⟨p, n, rfl, _⟩ := h
    rfl
  · obtain ⟨p, n, rfl, hp, hn, q⟩ := h
    obtain ⟨pp, hpp⟩ := T.prop
    have hr1 : Room 1 _ := hr.mono (by decide)
    have hr2 : Room 2 _ := hr.mono (by decide)
    have hr3 : Room 3 _ := hr.mono (by decide)
    have hr5 : Room 5 _ := hr.mono (by decide)
    have hr7 : Room 7 _ := hr
    refine ⟨_, (pss_cons (ps_set (i := 1) scFits.nd rfl (Or.inl rfl) (pe_call L.G hr3 (by rfl) L.g L.k L.b .nil pass0 (pa_cons (pv 0) (pa_cons pe_int (pa_cons pe_int pa_nil)))))
      (pss_cons (ps_set (i := 2) scFits.nd rfl (Or.inl rfl) (pe_make T.made Gi hr5 (by rfl) T.mgC bi .nil pass0 (pa_cons (pv 1) pa_nil)))
      (pss_cons (ps_for PassesOwn.never rfl (pi_range1 (by rfl) B.range (pa_cons pe_int pa_nil)) (pg_name (i := 3) scFits.nd rfl (Or.inl rfl)) (pss_cons (ps_set (i := 4) scFits.nd rfl (Or.inl rfl) (pe_call OD.G hr2 (by rfl) OD.g OD.k OD.b .nil pass0 (pa_cons (pv 0) (pa_cons (pv 1) pa_nil))))
      (pss_cons (ps_set (i := 5) scFits.nd rfl (Or.inl rfl) (pe_op op_cat (pv 1) (pe_lc (own := [("extra", 8)]) (g := gName 8) (tt := tYes) rfl scFits.nd (pi_range1 (by rfl) B.range (pa_cons (pe_call D.G hr1 (by rfl) D.g D.k D.b .nil pass0 (pa_cons (pv 0) (pa_cons pe_int pa_nil))) pa_nil)) (blkOk_by (N := ["pool", "lot", "made", "turn", "odd", "bent", "kept", "due", "extra", "sign"]) (sc := defScope sFits) (by decide +kernel)) (fun _ _ _ _ _ => pg_name (i := 8) scFits.nd rfl (Or.inl rfl)) (fun _ _ _ _ _ => pts_nil) (fun _ _ _ _ _ => (pe_call WD.G hr2 (by rfl) WD.g WD.k WD.b .nil pass0 (pa_cons (pv 0) (pa_cons pe_int (pa_cons pe_str pa_nil))))))))
      (pss_cons (ps_if (pt_cmpR op_eq (pe_call D.G hr1 (by rfl) D.g D.k D.b .nil pass0 (pa_cons (pv 0) (pa_cons pe_int pa_nil))) pe_int (nomark _)) (pss_one (ps_expr (pe_bm PySem.F.plainAttrs_list PySem.F.slot_list_insert PySem.F.type_list_insert mt_insert (pv 5) (pa_cons (pe_call D.G hr1 (by rfl) D.g D.k D.b .nil pass0 (pa_cons (pv 0) (pa_cons (pe_op op_add (pe_callB call_len_seq (by rfl) B.len PySem.boot_len (pa_cons (pv 5) pa_nil)) pe_int) pa_nil))) (pa_cons (pv 4) pa_nil))))) pss_nil)
      (pss_cons (ps_set (i := 5) scFits.nd rfl (Or.inl rfl) (pe_ix ix_list (pe_lst (pa_cons (pv 5) (pa_cons (pv 5) (pa_cons (pe_lst pa_nil) (pa_cons (pe_op op_cat (pv 5) (pe_lc (own := [("sign", 9)]) (g := gName 9) (tt := tYes) rfl scFits.nd (pi_str pe_str) (blkOk_by (N := ["pool", "lot", "made", "turn", "odd", "bent", "kept", "due", "extra", "sign"]) (sc := defScope sFits) (by decide +kernel)) (fun _ _ _ _ _ => pg_name (i := 9) scFits.nd rfl (Or.inl rfl)) (fun _ _ _ _ _ => pts_nil) (fun _ _ _ _ _ => (pe_op op_add_str pe_str (pv 9))))) pa_nil))))) (pe_call D.G hr1 (by rfl) D.g D.k D.b .nil pass0 (pa_cons (pv 0) (pa_cons pe_int pa_nil))) (fun _ _ => rfl)))
      (pss_cons (ps_par (i := 6) (j := 7) (by rfl) scFits.nd rfl rfl (by decide) rfl rfl (pa_cons (pe_callB (call_repr hG hr.units) (by rfl) B.repr (by decide +kernel) (pa_cons (pv 5) pa_nil)) (pa_cons (pe_call FA.G hr1 (by rfl) FA.g FA.k FA.b .nil pass0 (pa_cons (pv 5) pa_nil)) pa_nil)) (by rfl))
      (pss_cons (ps_if (pt_cmpR op_ne (pe_callB (call_repr hG hr.units) (by rfl) B.repr (by decide +kernel) (pa_cons (pe_lst (pa_cons (pe_call CA.G hr7 (by rfl) CA.g CA.k CA.b .nil pass0 (pa_cons pe_int (pa_cons (pv 2) (pa_cons (pv 5) pa_nil)))) (pa_cons (pe_call CA.G hr7 (by rfl) CA.g CA.k CA.b .nil pass0 (pa_cons pe_int (pa_cons (pv 2) (pa_cons (pv 5) pa_nil)))) pa_nil))) pa_nil)) (pe_callB (call_repr hG hr.units) (by rfl) B.repr (by decide +kernel) (pa_cons (pe_lst (pa_cons (pv 7) (pa_cons (pv 7) pa_nil))) pa_nil)) (nomark _)) (pss_one (ps_ret pe_bl)) pss_nil)
      (pss_cons (ps_if (pt_cmpR op_ne (pe_callB (call_repr hG hr.units) (by rfl) B.repr (by decide +kernel) (pa_cons (pv 5) pa_nil)) (pv 6) (nomark _)) (pss_one (ps_ret pe_bl)) pss_nil)
      (pss_cons (ps_set (i := 7) scFits.nd rfl (Or.inl rfl) (pe_call FA.G hr1 (by rfl) FA.g FA.k FA.b .nil pass0 (pa_cons (pe_op op_cat (pv 1) (pe_lst (pa_cons (pv 4) pa_nil))) pa_nil)))
      (pss_cons (ps_if (pt_cmpR op_ne (pe_callB (call_repr hG hr.units) (by rfl) B.repr (by decide +kernel) (pa_cons (pe_lst (pa_cons (pe_call CA.G hr7 (by rfl) CA.g CA.k CA.b .nil pass0 (pa_cons pe_int (pa_cons (pv 2) (pa_cons (pv 4) pa_nil)))) (pa_cons (pe_call CA.G hr7 (by rfl) CA.g CA.k CA.b .nil pass0 (pa_cons pe_int (pa_cons (pv 2) (pa_cons (pv 4) pa_nil)))) pa_nil))) pa_nil)) (pe_callB (call_repr hG hr.units) (by rfl) B.repr (by decide +kernel) (pa_cons (pe_lst (pa_cons (pv 7) (pa_cons (pv 7) pa_nil))) pa_nil)) (nomark _)) (pss_one (ps_ret pe_bl)) pss_nil)
      (pss_cons (ps_set (i := 7) scFits.nd rfl (Or.inl rfl) (pe_ifExp (pt_cmpR (op_eqD hr.units) (pv 1) (pe_lst (pa_cons (pv 4) pa_nil)) (nomark _)) (pe_lst (pa_cons pe_bl (pa_cons pe_bl (pa_cons pe_bl (pa_cons pe_int pa_nil))))) pe_non))
      (pss_cons (ps_set (i := 7) scFits.nd rfl (Or.inl rfl) (pe_ifExp (pt_cmpR op_in_seq (pv 4) (pv 1) rfl) (pv 7) (pe_lst (pa_cons pe_bl (pa_cons pe_bl (pa_cons pe_bl (pa_cons (pv 4) pa_nil)))))))
      (pss_one (ps_if (pt_cmpR op_ne (pe_callB (call_repr hG hr.units) (by rfl) B.repr (by decide +kernel) (pa_cons (pe_lst (pa_cons (pe_call CA.G hr7 (by rfl) CA.g CA.k CA.b .nil pass0 (pa_cons pe_int (pa_cons (pv 2) (pa_cons (pv 4) pa_nil)))) (pa_cons (pe_call CA.G hr7 (by rfl) CA.g CA.k CA.b .nil pass0 (pa_cons pe_int (pa_cons (pv 2) (pa_cons (pv 4) pa_nil)))) pa_nil))) pa_nil)) (pe_callB (call_repr hG hr.units) (by rfl) B.repr (by decide +kernel) (pa_cons (pe_lst (pa_cons (pv 7) (pa_cons (pv 7) pa_nil))) pa_nil)) (nomark _)) (pss_one (ps_ret pe_bl)) pss_nil))))))))))))))
      (pss_one (ps_ret (pe_cmpR (op_eqD hr.units) (pe_prop (pv 2) T.cl hpp Gw hr2 bw .nil pass0 rfl) (pv 1) (nomark _))))))), ?_⟩
    refine ⟨_, rfl, p, 8, 8, n, rfl, hp, by omega, by decide, by decide, by decide, by decide, fun l ws H1 nl hl lo l1 l6 hp1 b1 => ?_⟩
    have g := good_lot lo l1 (by omega)
    have npl := (hp.ne nl).symm
    have gl := fun x (hx : x ∈ ws) => isW_len (g.w x hx)
    have lotB : SOk ws ∧ ∀ x ∈ ws, x.length ≤ 10 := ⟨g.sok, fun x hx => Nat.le_trans (gl x hx).2 (by decide)⟩
    refine ⟨_, rfl, ?_⟩
    intro m mdx nm nmdx nemdx
    refine ⟨m, mdx, l, ws, rfl, upd_same, (mk_s0 nm nmdx).seq (SqL.of hl), g, fun H2 st2 kp2 => ⟨rfl, ?_⟩⟩
    have s2 : Same H1 H2 := mk_same nm nmdx kp2
    have hp2 := hp1.same s2
    have hl2 := s2 _ _ hl
    have bb2 : SameBut p H H2 := b1.trans (Same.but s2)
    clear kp2 s2 hp1 hl b1
    refine ⟨_, rfl, by decide, by decide, ?_⟩
    refine for_range (lo := 0) (fun i σ H' => ∃ v3 v4 v5 v6 v7 : Option V, σ = [some (.ref p), some (.ref l), some (.ref m), v3, v4, v5, v6, v7, none, none] ∧ PoolAt H' p (n + 500 + 100 * i) ∧ H' l = some (.lst (ws.map V.str)) ∧ StkAt C H' m ws ∧ SameBut p H H')
      ⟨none, none, none, none, none, rfl, hp2.le (by simp), hl2, st2, bb2⟩ ?_ ?_
    · rintro i σ H3 hi ⟨v3, v4, v5, v6, v7, rfl, hp3, hl3, st3, b3⟩
      have hi4 : i < 4 := hi
      refine ⟨_, rfl, _, rfl, p, l, _, ws, rfl, hp3, by omega, hl3, by omega, fun odd H4 oddm hp4 b4 => ?_⟩
      have oddB : PyData.strOk odd = true ∧ odd.length ≤ 10 := by
        rcases List.mem_append.mp oddm with h | h
        · exact ⟨(odds_ok odd h).2, Nat.le_trans (odds_ok odd h).1 (by decide)⟩
        · exact ⟨lotB.1 odd h, lotB.2 odd h⟩
      have hl4 := b4 _ _ npl hl3
      have st4 := st3.but hp3 b4
      have bb4 : SameBut p H H4 := b3.trans b4
      clear hl3 hp3 st3 b3 b4
      with_reducible show gName _ _ _ _ (tSeq _ _ _)
      refine seq_midN (fun σ H' => ∃ (be : Addr) (ys : List Str), σ = [some (.ref p), some (.ref l), some (.ref m), some (.int (0 + (i : Nat))), some (.str odd), some (.ref be), v6, v7, none, none] ∧ H' be = some (.lst (ys.map V.str)) ∧ (SOk ys ∧ ∀ x ∈ ys, x.length ≤ 10) ∧ ys.length ≤ 10 ∧ PoolAt H' p (n + 500 + 100 * i + 50) ∧ H' l = some (.lst (ws.map V.str)) ∧ StkAt C H' m ws ∧ SameBut p H H' ∧ be ≠ p ∧ be ≠ l ∧ H be = none) ?_ ?_
      · intro N hN
        refine ⟨_, rfl, _, rfl, p, _, _, rfl, hp4, by omega, by decide, by decide, fun k H5 k0 k3 hp5 b5 => ?_⟩
        have hl5 := b5 _ _ npl hl4
        have st5 := st4.but hp4 b5
        refine ⟨_, rfl, by omega, by omega, fun D0 hD0 => ?_⟩
        have npD : p ≠ D0 := hp5.ne hD0
        have nlD : l ≠ D0 := ne_of_none hl5 hD0
        have sD := same_upd (o := .lst []) hD0
        refine lc_it walk_range (fun j H' => ∃ us : List Str, us.length = j ∧ H' D0 = some (.lst (us.map V.str)) ∧ (∀ x ∈ us, isL x = true ∧ x.length ≤ 8) ∧ PoolAt H' p (n + 500 + 100 * i + 2 + 21 * j) ∧ H' l = some (.lst (ws.map V.str)) ∧ StkAt C H' m ws ∧ SameBut p H5 H')
          ⟨[], rfl, upd_same, fun x hx => by simp at hx, (hp5.same sD).le (by simp; omega), sD _ _ hl5, st5.same sD, Same.but sD⟩ (fun _ _ _ _ => trivial) ?_ ?_
        · rintro j x H6 H7 hj ⟨us, hus, hD6, hok, hp6, hl6, st6, b6⟩ ⟨rfl, rfl⟩
          have hj3 : (j : Int) < k := by omega
          refine ⟨rfl, yesT ?_⟩
          refine ⟨_, rfl, p, 8, _, "xyz", rfl, hp6, by omega, by decide, by decide, by decide, by decide, fun z H8 z1 z8 zc hp8 b8 => ?_⟩
          have hD8 := b8 _ _ npD.symm hD6
          have zL : isL z = true := isL_iff.mpr fun c hc => xyz_let c (zc c hc)
          refine ⟨us.map V.str, hD8, ?_, us ++ [z], by simp [hus], by rw [upd_same]; simp, ?_, ?_, ?_, ?_, ?_⟩
          · rw [List.length_map]
            exact Nat.lt_of_le_of_lt (show us.length ≤ 10 by omega) (by decide)
          · intro y hy
            rcases List.mem_append.mp hy with h | h
            · exact hok y h
            · have ey : y = z := by simpa using h
              rw [ey]
              exact ⟨zL, by omega⟩
          · exact (hp8.upd npD).le (by push_cast; omega)
          · rw [upd_ne nlD]
            exact b8 _ _ npl hl6
          · exact (st6.but hp6 b8).butL hD8 but_upd
          · intro b o nb hb
            have nbD : b ≠ D0 := ne_of_none hb hD0
            rw [upd_ne nbD]
            exact b8 _ _ nb (b6 _ _ nb hb)
        rintro H6 ⟨us, hus, hD6, hok, hp6, hl6, st6, b6⟩
        have hk : us.length ≤ 2 := by omega
        have bb6 : SameBut p H H6 := (bb4.trans b5).trans b6
        refine ⟨l, D0, _, _, rfl, rfl, hl6, hD6, Nat.le_trans (show (ws.map V.str).length + (us.map V.str).length ≤ 20 by rw [List.length_map, List.length_map]; omega) (by decide), fun be nbe => ?_⟩
        have sbe := same_upd (o := .lst (ws.map V.str ++ us.map V.str)) nbe
        have nbp : be ≠ p := (hp6.ne nbe).symm
        refine hN _ _ ⟨be, ws ++ us, rfl, by rw [upd_same, List.map_append], ⟨fun x hx => ?_, fun x hx => ?_⟩, by rw [List.length_append]; omega, (hp6.same sbe).le (by omega), sbe _ _ hl6, st6.same sbe, bb6.trans (Same.but sbe), nbp, ?_, bb6.free nbp nbe⟩
        · exact (List.mem_append.mp hx).elim (lotB.1 x) (fun h => sok_isL (hok x h).1)
        · exact (List.mem_append.mp hx).elim (lotB.2 x) (fun h => Nat.le_trans (hok x h).2 (by decide))
        · intro e
          rw [e, hl6] at nbe
          cases nbe
      rintro σ H5 ⟨be, ys, rfl, hbe, ysB, ysl, hp5, hl5, st5, bb5, nbp, nbl, nbH⟩
      clear hp4 hl4 st4 bb4
      -- the odd one put in
      refine seq_mid (fun σ H' => ∃ ys : List Str, σ = [some (.ref p), some (.ref l), some (.ref m), some (.int (0 + (i : Nat))), some (.str odd), some (.ref be), v6, v7, none, none] ∧ H' be = some (.lst (ys.map V.str)) ∧ (SOk ys ∧ ∀ x ∈ ys, x.length ≤ 10) ∧ ys.length ≤ 11 ∧ PoolAt H' p (n + 500 + 100 * i + 52) ∧ H' l = some (.lst (ws.map V.str)) ∧ StkAt C H' m ws ∧ SameBut p H H') ?_ ?_
      · intro N hN
        refine ⟨_, rfl, p, _, _, rfl, hp5, by omega, by decide, by decide, fun d H6 d0 d2 hp6 b6 => ?_⟩
        have hbe6 := b6 _ _ nbp hbe
        have hl6 := b6 _ _ npl hl5
        have st6 := st5.but hp5 b6
        have bb6 := bb5.trans b6
        refine ⟨rfl, _, rfl, ?_⟩
        by_cases cd : d = 0
        case neg =>
          rw [decide_eq_false (fun h => cd (V.int.inj h))]
          exact iteF (hN _ _ ⟨ys, rfl, hbe6, ysB, by omega, hp6.le (by omega), hl6, st6, bb6⟩)
        rw [decide_eq_true (congrArg V.int cd)]
        refine iteT ?_
        refine ⟨_, rfl, .inl ⟨rfl, _, SqL.of hbe6⟩, _, rfl, _, rfl, be, _, rfl, .inl (SqL.of hbe6), _, _, rfl, rfl, p, _, _, rfl, hp6, by omega, by rw [List.length_map]; omega, by rw [List.length_map]; omega, fun at' H7 a0 a1 hp7 b7 => ?_⟩
        have hbe7 := b7 _ _ nbp hbe6
        have hl7 := b7 _ _ npl hl6
        have st7 := st6.but hp6 b7
        have bb7 := bb6.trans b7
        rw [List.length_map] at a1
        refine ⟨_, rfl, be, _, at', _, rfl, rfl, hbe7, ?_, a0, Int.lt_of_lt_of_le a1 (Int.le_trans (show ((ys.length : Nat) : Int) + 1 ≤ 100 by omega) (by decide)), ?_⟩
        · rw [List.length_map]
          exact Nat.lt_of_le_of_lt ysl (by decide)
        obtain ⟨zs, e1, e2, e3⟩ := insert_map ys at'.toNat odd
        rw [e1]
        refine hN _ _ ⟨zs, rfl, upd_same, ⟨fun x hx => ?_, fun x hx => ?_⟩, by omega, (hp7.upd nbp.symm).le (by omega), by rw [upd_ne nbl.symm]; exact hl7, st7.butL hbe7 but_upd, fun b o nb hb => ?_⟩
        · exact (e3 x hx).elim (ysB.1 x) (fun h => h ▸ oddB.1)
        · exact (e3 x hx).elim (ysB.2 x) (fun h => h ▸ oddB.2)
        · rw [upd_ne (ne_of_none hb nbH)]
          exact bb7 _ _ nb hb
      rintro σ H6 ⟨ys, rfl, hbe, ysB, ysl, hp6, hl6, st6, bb6⟩
      clear hp5 hl5 st5 bb5
      -- which of them
      refine seq_mid (fun σ H' => ∃ (be : Addr) (ys : List Str), σ = [some (.ref p), some (.ref l), some (.ref m), some (.int (0 + (i : Nat))), some (.str odd), some (.ref be), v6, v7, none, none] ∧ H' be = some (.lst (ys.map V.str)) ∧ BentOk ys ∧ PoolAt H' p (n + 500 + 100 * i + 53) ∧ H' l = some (.lst (ws.map V.str)) ∧ StkAt C H' m ws ∧ SameBut p H H') ?_ ?_
      · intro N hN
        refine ⟨_, rfl, _, rfl, (by show 0 ≤ sizeLine; decide), fun e0 ne0 => ?_⟩
        have se0 := same_upd (o := .lst []) ne0
        refine ⟨_, rfl, _, rfl, fun D0 hD0 => ?_⟩
        refine lc_fm walk_str (fun j => some (.str (KS.getD j ""))) (by decide) hD0 (fun _ _ => trivial) ?_ ?_
        · rintro j x Ha Hb N hj sa ⟨rfl, c, hc, rfl⟩ hN
          refine ⟨rfl, yesT ?_⟩
          refine ⟨_, rfl, _, _, rfl, rfl, (by show 1 + 1 ≤ sizeLine; decide), ?_⟩
          have hj8 : j < 8 := hj
          have ek : (("k" : Str) ++ ⟨#[c]⟩ : Str) = KS.getD j "" := by
            have all : ∀ j : Nat, j < 8 → ∀ c, ("abcdefgh" : Str).cps[j]? = some c → (("k" : Str) ++ ⟨#[c]⟩ : Str) = KS.getD j "" := by
              intro j hj c hc
              match j, hj, hc with
              | 0, _, h => cases h; rfl
              | 1, _, h => cases h; rfl
              | 2, _, h => cases h; rfl
              | 3, _, h => cases h; rfl
              | 4, _, h => cases h; rfl
              | 5, _, h => cases h; rfl
              | 6, _, h => cases h; rfl
              | 7, _, h => cases h; rfl
            exact all j hj8 c hc
          rw [ek]
          exact hN _ (Same.refl _)
        intro H7 s7 h7
        rw [fmr_map] at h7
        have h7' : H7 D0 = some (.lst (KS.map V.str)) := h7
        refine ⟨be, D0, _, _, rfl, rfl, s7 _ _ (se0 _ _ hbe), h7', Nat.le_trans (show (ys.map V.str).length + 8 ≤ 20 by rw [List.length_map]; omega) (by decide), fun b8 nb8 => ?_⟩
        have sb8 := same_upd (o := .lst (ys.map V.str ++ KS.map V.str)) nb8
        refine ⟨(by show 4 ≤ sizeLine; decide), fun q4 nq4 => ?_⟩
        have sq4 := same_upd (o := .lst [.ref be, .ref be, .ref e0, .ref b8]) nq4
        have sall := ((se0.trans s7).trans sb8).trans sq4
        have hb8 := sq4 _ _ (upd_same (H := H7) (a := b8) (o := .lst (ys.map V.str ++ KS.map V.str)))
        have he0 := sq4 _ _ (sb8 _ _ (s7 _ _ (upd_same (H := H6) (a := e0) (o := .lst []))))
        have hq4 : (upd (upd H7 b8 (.lst (ys.map V.str ++ KS.map V.str))) q4 (.lst [.ref be, .ref be, .ref e0, .ref b8])) q4 = some (.lst [.ref be, .ref be, .ref e0, .ref b8]) := upd_same
        generalize (upd (upd H7 b8 (.lst (ys.map V.str ++ KS.map V.str))) q4 (.lst [.ref be, .ref be, .ref e0, .ref b8])) = H8 at sall hb8 he0 hq4 ⊢
        have hp8 := hp6.same sall
        have npq : q4 ≠ p := by
          intro e
          subst e
          obtain ⟨_, _, _, e, _⟩ := hp8
          rw [hq4] at e
          cases e
        have npb8 : b8 ≠ p := (((hp6.same se0).same s7).ne nb8).symm
        have npe0 : e0 ≠ p := (hp6.ne ne0).symm
        refine ⟨_, rfl, p, _, _, rfl, hp8, by omega, by decide, by decide, fun d H9 d0 d4 hp9 b9 => ?_⟩
        have bb9 : SameBut p H H9 := (bb6.trans (Same.but sall)).trans b9
        have hl9 := b9 _ _ npl (sall _ _ hl6)
        have st9 := (st6.same sall).but hp8 b9
        have atd : ∃ (be2 : Addr) (ys2 : List Str), atI [V.ref be, .ref be, .ref e0, .ref b8] d = some (.ref be2) ∧ H9 be2 = some (.lst (ys2.map V.str)) ∧ BentOk ys2 := by
          have c : d = 0 ∨ d = 1 ∨ d = 2 ∨ d = 3 := by omega
          rcases c with rfl | rfl | rfl | rfl
          · exact ⟨be, ys, rfl, b9 _ _ nbp (sall _ _ hbe), by omega, ysB⟩
          · exact ⟨be, ys, rfl, b9 _ _ nbp (sall _ _ hbe), by omega, ysB⟩
          · exact ⟨e0, [], rfl, b9 _ _ npe0 he0, BentOk.nil⟩
          · exact ⟨b8, ys ++ KS, rfl, by rw [List.map_append]; exact b9 _ _ npb8 hb8, BentOk.app ysB ⟨fun x hx => (ks_ok x hx).1, fun x hx => (ks_ok x hx).2⟩ (by show ys.length + 8 ≤ 30; omega)⟩
        obtain ⟨be2, ys2, hat, hb2, ok2⟩ := atd
        exact ⟨q4, _, _, _, rfl, rfl, SqL.of (b9 _ _ npq hq4), hat, hN _ _ ⟨be2, ys2, rfl, hb2, ok2, hp9.le (by omega), hl9, st9, bb9⟩⟩
      rintro σ H7 ⟨be, ys, rfl, hbe, ysB, hp7, hl7, st7, bb7⟩
      clear hp6 hl6 st6 bb6
      have flB := ysB.flt
      have ys30 := ysB.1
      have ysS : ∀ x ∈ ys, x.length ≤ 100000 := fun x hx => Nat.le_trans (ysB.2.2 x hx) (by decide)
      -- kept, due
      refine seq_mid (fun σ H' => ∃ y : V, σ = [some (.ref p), some (.ref l), some (.ref m), some (.int (0 + (i : Nat))), some (.str odd), some (.ref be), some (.str (PyData.list (dStrs ys)).shown), some y, none, none] ∧ IsF (fl ys) y H' ∧ Same H7 H') ?_ ?_
      · intro N hN
        obtain ⟨q1, q2, q3, q4, q5⟩ := repr_strs (K := K) (SqL.of hbe) ysB.2.1 10 ysB.2.2 (by omega)
        refine ⟨_, rfl, be, _, rfl, q1, q2, q3, q4, q5, ?_⟩
        refine ⟨_, rfl, be, ys, rfl, SqL.of hbe, by omega, ysS, ysB.2.1, tell_is fun y H8 s8 hy => ⟨_, _, rfl, ?_⟩⟩
        exact hN _ _ ⟨y, rfl, hy, s8⟩
      rintro σ H8 ⟨y, rfl, hy, s8⟩
      refine seq_mid (fun σ H' => σ = [some (.ref p), some (.ref l), some (.ref m), some (.int (0 + (i : Nat))), some (.str odd), some (.ref be), some (.str (PyData.list (dStrs ys)).shown), some y, none, none] ∧ Same H8 H') ?_ ?_
      · intro N hN
        have st8 := st7.same s8
        have hbe8 := s8 _ _ hbe
        refine ⟨_, rfl, _, rfl, 0, m, ws, st8, g, .inl ⟨be, ys, rfl, by decide, by decide, SqL.of hbe8, by omega, ysS, tell_is fun y1 Ha sa h1 => ?_⟩⟩
        refine ⟨_, rfl, _, rfl, 1, m, ws, st8.same sa, g, .inl ⟨be, ys, rfl, by decide, by decide, SqL.of (sa _ _ hbe8), by omega, ysS, tell_is fun y2 Hb sb h2 => ?_⟩⟩
        refine ⟨(by show 2 ≤ sizeLine; decide), fun a na => ?_⟩
        have s1 := same_upd (o := .lst [y1, y2]) na
        obtain ⟨t1, t2, t3, t4, t5⟩ := two_F (K := K) (H := upd Hb a (.lst [y1, y2])) flB upd_same ((h1.same sb).same s1) (h2.same s1)
        refine ⟨a, _, rfl, t1, t2, t3, t4, t5, ?_⟩
        refine ⟨_, rfl, _, rfl, (by show 2 ≤ sizeLine; decide), fun b nb => ?_⟩
        have s2 := same_upd (o := .lst [y, y]) nb
        have hy' := (((hy.same sa).same sb).same s1).same s2
        obtain ⟨u1, u2, u3, u4, u5⟩ := two_F (K := K) (H := upd (upd Hb a (.lst [y1, y2])) b (.lst [y, y])) flB upd_same hy' hy'
        refine ⟨b, _, rfl, u1, u2, u3, u4, u5, rfl, _, rfl, ?_⟩
        rw [decide_eq_true rfl]
        exact iteF (hN _ _ ⟨rfl, ((sa.trans sb).trans s1).trans s2⟩)
      rintro σ H9 ⟨rfl, s9⟩
      have s79 := s8.trans s9
      have hbe9 := s79 _ _ hbe
      have hl9 := s79 _ _ hl7
      have st9 := st7.same s79
      have hp9 := hp7.same s79
      have bb9 : SameBut p H H9 := bb7.trans (Same.but s79)
      clear s79 s8 s9 hp7 hl7 st7 bb7 hbe hy flB
      -- the list stays
      refine seq_mid (fun σ H' => σ = [some (.ref p), some (.ref l), some (.ref m), some (.int (0 + (i : Nat))), some (.str odd), some (.ref be), some (.str (PyData.list (dStrs ys)).shown), some y, none, none] ∧ Same H9 H') ?_ ?_
      · intro N hN
        obtain ⟨q1, q2, q3, q4, q5⟩ := repr_strs (K := K) (SqL.of hbe9) ysB.2.1 10 ysB.2.2 (by omega)
        refine ⟨_, rfl, be, _, rfl, q1, q2, q3, q4, q5, _, rfl, rfl, _, rfl, ?_⟩
        rw [decide_eq_true rfl]
        exact iteF (hN _ _ ⟨rfl, Same.refl _⟩)
      rintro σ H10 ⟨rfl, s10⟩
      -- a word put to the stock
      have wsB : BentOk (ws ++ [odd]) := BentOk.app lotB ⟨fun x hx => by
        have e : x = odd := by simpa using hx
        rw [e]
        exact oddB.1, fun x hx => by
        have e : x = odd := by simpa using hx
        rw [e]
        exact oddB.2⟩ (by show ws.length + 1 ≤ 30; omega)
      have flB := wsB.flt
      refine seq_mid (fun σ H' => ∃ y : V, σ = [some (.ref p), some (.ref l), some (.ref m), some (.int (0 + (i : Nat))), some (.str odd), some (.ref be), some (.str (PyData.list (dStrs ys)).shown), some y, none, none] ∧ IsF (fl (ws ++ [odd])) y H' ∧ Same H10 H') ?_ ?_
      · intro N hN
        have hl10 := s10 _ _ hl9
        refine ⟨_, rfl, _, rfl, (by show 1 ≤ sizeLine; decide), fun a na => ?_⟩
        have s1 := same_upd (o := .lst [.str odd]) na
        refine ⟨l, a, _, _, rfl, rfl, s1 _ _ hl10, upd_same, Nat.le_trans (show (ws.map V.str).length + 1 ≤ 20 by rw [List.length_map]; omega) (by decide), fun b nb => ?_⟩
        have s2 := same_upd (o := .lst (ws.map V.str ++ [.str odd])) nb
        have hb : (upd (upd H10 a (.lst [.str odd])) b (.lst (ws.map V.str ++ [.str odd]))) b = some (.lst ((ws ++ [odd]).map V.str)) := by
          rw [upd_same, List.map_append]
          rfl
        refine ⟨b, ws ++ [odd], rfl, SqL.of hb, by rw [List.length_append]; show ws.length + 1 ≤ 1000; omega, fun x hx => Nat.le_trans (wsB.2.2 x hx) (by decide), wsB.2.1, tell_is fun y Ha sa hy => ?_⟩
        exact hN _ _ ⟨y, rfl, hy, (s1.trans s2).trans sa⟩
      rintro σ H11 ⟨y, rfl, hy, s11⟩
      refine seq_mid (fun σ H' => σ = [some (.ref p), some (.ref l), some (.ref m), some (.int (0 + (i : Nat))), some (.str odd), some (.ref be), some (.str (PyData.list (dStrs ys)).shown), some y, none, none] ∧ Same H11 H') ?_ ?_
      · intro N hN
        have st11 := (st9.same s10).same s11
        refine ⟨_, rfl, _, rfl, 2, m, ws, st11, g, .inr ⟨odd, rfl, by decide, by omega, ?_⟩⟩
        rw [if_pos (by decide)]
        refine tell_is fun y1 Ha sa h1 => ?_
        refine ⟨_, rfl, _, rfl, 3, m, ws, st11.same sa, g, .inr ⟨odd, rfl, by decide, by omega, ?_⟩⟩
        rw [if_pos (by decide)]
        refine tell_is fun y2 Hb sb h2 => ?_
        refine ⟨(by show 2 ≤ sizeLine; decide), fun a na => ?_⟩
        have s1 := same_upd (o := .lst [y1, y2]) na
        obtain ⟨t1, t2, t3, t4, t5⟩ := two_F (K := K) (H := upd Hb a (.lst [y1, y2])) flB upd_same ((h1.same sb).same s1) (h2.same s1)
        refine ⟨a, _, rfl, t1, t2, t3, t4, t5, ?_⟩
        refine ⟨_, rfl, _, rfl, (by show 2 ≤ sizeLine; decide), fun b nb => ?_⟩
        have s2 := same_upd (o := .lst [y, y]) nb
        have hy' := (((hy.same sa).same sb).same s1).same s2
        obtain ⟨u1, u2, u3, u4, u5⟩ := two_F (K := K) (H := upd (upd Hb a (.lst [y1, y2])) b (.lst [y, y])) flB upd_same hy' hy'
        refine ⟨b, _, rfl, u1, u2, u3, u4, u5, rfl, _, rfl, ?_⟩
        rw [decide_eq_true rfl]
        exact iteF (hN _ _ ⟨rfl, ((sa.trans sb).trans s1).trans s2⟩)
      rintro σ H12 ⟨rfl, s12⟩
      have s912 := (s10.trans s11).trans s12
      have hl12 := s912 _ _ hl9
      have st12 := st9.same s912
      have hp12 := hp9.same s912
      have bb12 : SameBut p H H12 := bb9.trans (Same.but s912)
      clear s912 s10 s11 s12 hp9 hl9 st9 bb9 hy flB hbe9
      -- a word taken away
      refine seq_mid (fun σ H' => ∃ y : V, σ = [some (.ref p), some (.ref l), some (.ref m), some (.int (0 + (i : Nat))), some (.str odd), some (.ref be), some (.str (PyData.list (dStrs ys)).shown), some y, none, none] ∧ IsF (if ws = [odd] then some (.n 0) else none) y H' ∧ Same H12 H') ?_ ?_
      · intro N hN
        refine ⟨_, rfl, _, rfl, (by show 1 ≤ sizeLine; decide), fun b nb => ?_⟩
        have s1 := same_upd (o := .lst [.str odd]) nb
        refine ⟨_, _, dp_lst (SqL.of (s1 _ _ hl12)), dp_lst (ws := [odd]) (SqL.of upd_same), sh_lst lotB.1, sh_lst (ws := [odd]) (fun x hx => by
          have e : x = odd := by simpa using hx
          rw [e]
          exact oddB.1), _, rfl, ?_⟩
        rw [eqv_lst]
        by_cases c : ws = [odd]
        · rw [decide_eq_true c]
          refine iteT ⟨(by show 4 ≤ sizeLine; decide), fun a na => hN _ _ ⟨.ref a, rfl, ?_, s1.trans (same_upd na)⟩⟩
          rw [if_pos c]
          exact .inr ⟨_, a, rfl, rfl, upd_same⟩
        · rw [decide_eq_false c]
          refine iteF (hN _ _ ⟨.non, rfl, ?_, s1⟩)
          rw [if_neg c]
          exact .inl ⟨rfl, rfl⟩
      rintro σ H13 ⟨y, rfl, hy, s13⟩
      refine seq_mid (fun σ H' => ∃ y : V, σ = [some (.ref p), some (.ref l), some (.ref m), some (.int (0 + (i : Nat))), some (.str odd), some (.ref be), some (.str (PyData.list (dStrs ys)).shown), some y, none, none] ∧ IsF (flo ws odd) y H' ∧ Same H13 H') ?_ ?_
      · intro N hN
        refine ⟨_, rfl, _, rfl, l, _, rfl, .inl (SqL.of (s13 _ _ hl12)), rfl, flat_strs ws, _, rfl, ?_⟩
        rw [inV_strs]
        by_cases c : odd ∈ ws
        · rw [decide_eq_true c]
          exact iteT ⟨_, rfl, hN _ _ ⟨y, rfl, by rw [flo_good g, if_pos c]; exact hy, Same.refl _⟩⟩
        · rw [decide_eq_false c]
          refine iteF ⟨_, rfl, (by show 4 ≤ sizeLine; decide), fun a na => hN _ _ ⟨.ref a, rfl, ?_, same_upd na⟩⟩
          rw [flo_good g, if_neg c]
          exact .inr ⟨_, a, rfl, rfl, upd_same⟩
      rintro σ H14 ⟨y', rfl, hy', s14⟩
      clear hy
      have flB : FltOk (flo ws odd) := by
        rw [flo_good g]
        split
        · split
          · show (0 : Int).natAbs < 2 ^ 200
            decide +kernel
          · trivial
        · exact ⟨oddB.1, Nat.le_trans oddB.2 (by decide)⟩
      have s1214 := s13.trans s14
      have st14 := st12.same s1214
      refine ⟨_, rfl, _, rfl, 4, m, ws, st14, g, .inr ⟨odd, rfl, by decide, by omega, ?_⟩⟩
      rw [if_neg (by decide)]
      refine tell_is fun y1 Ha sa h1 => ?_
      refine ⟨_, rfl, _, rfl, 5, m, ws, st14.same sa, g, .inr ⟨odd, rfl, by decide, by omega, ?_⟩⟩
      rw [if_neg (by decide)]
      refine tell_is fun y2 Hb sb h2 => ?_
      refine ⟨(by show 2 ≤ sizeLine; decide), fun a na => ?_⟩
      have s1 := same_upd (o := .lst [y1, y2]) na
      obtain ⟨t1, t2, t3, t4, t5⟩ := two_F (K := K) (H := upd Hb a (.lst [y1, y2])) flB upd_same ((h1.same sb).same s1) (h2.same s1)
      refine ⟨a, _, rfl, t1, t2, t3, t4, t5, ?_⟩
      refine ⟨_, rfl, _, rfl, (by show 2 ≤ sizeLine; decide), fun b nb => ?_⟩
      have s2 := same_upd (o := .lst [y', y']) nb
      have hy2 := (((hy'.same sa).same sb).same s1).same s2
      obtain ⟨u1, u2, u3, u4, u5⟩ := two_F (K := K) (H := upd (upd Hb a (.lst [y1, y2])) b (.lst [y', y'])) flB upd_same hy2 hy2
      refine ⟨b, _, rfl, u1, u2, u3, u4, u5, rfl, _, rfl, ?_⟩
      rw [decide_eq_true rfl]
      refine iteF ?_
      have sE := (((s1214.trans sa).trans sb).trans s1).trans s2
      exact ⟨_, _, _, _, _, rfl, (hp12.same sE).le (by push_cast; omega), sE _ _ hl12, st12.same sE, bb12.trans (Same.but sE)⟩
    · rintro σ H3 ⟨v3, v4, v5, v6, v7, rfl, hp3, hl3, st3, b3⟩
      obtain ⟨dx, t, e1, e2⟩ := id st3
      refine ⟨_, rfl, m, dx, _, rfl, e1, m, ws, rfl, st3, fun r H4 nr s4 h4 => ?_⟩
      refine ⟨_, rfl, _, _, dp_lst (SqL.of h4), dp_lst (SqL.of (s4 _ _ hl3)), sh_lst lotB.1, sh_lst lotB.1, ?_⟩
      rw [eqv_lst, decide_eq_true rfl]
      exact q H4 ((hp3.same s4).le (by omega)) (b3.trans (Same.but s4))
end
end WH
namespace WH
open PySem PySem.Spec PyProof.Rows L2
section
variable {P : Program} {w : World} {K : PySem.W.Frag} {mg : Str → Option Value} {base : Heap}
theorem scLaw : FnScope ["script", "spot", "pool", "turn"] ["script"] (defScope sLaw) := ⟨rfl, rfl, rfl, by decide +kernel, rfl, by decide +kernel, by decide +kernel⟩
def spLaw (K : PySem.W.Frag) : Sp := fun vs H Q _ => ∃ (a : Addr) (ns : List Int), vs = [.ref a] ∧ SqL K H a (ns.map V.int) ∧ ns.length ≤ 63 ∧ ∀ H', Q (.bl true) H'
theorem ok_law {f fP fF : Addr} {fd fdP fdF : FuncData} (F : Fun K "law" "law" sLaw f fd) (B : Bu mg) (PL : Cal P w K mg base 1 "_law_pool" ["script", "spot"] (spPool K) fP fdP) (FT : FnG P w K mg base CX0 8 fF fdF ["pool"] spFits) (bF : Binds K fdF ["pool"] []) (kF : PySem.W.keepIn K (.ref fF) = true) (gF : mg "_law_fits" = some (.ref fF)) : FnG P w K mg base CX0 9 f fd ["script"] (spLaw K) := by
  refine WH.Fun.okG F scLaw (fun vs H Q E h => ?_) (fun cdv A outer s H vs Q E hr hG h => ?_)
  · obtain ⟨a, ns, rfl, _⟩ := h
    rfl
  · obtain ⟨a, ns, rfl, hS, hlen, q⟩ := h
    have hr1 : Room 1 _ := hr.mono (by decide)
    refine ⟨_, (pss_cons (ps_for PassesOwn.never rfl (pi_range1 (by rfl) B.range (pa_cons (pe_callB (call_max2 rfl) (by rfl) B.max (by decide +kernel) (pa_cons pe_int (pa_cons (pe_callB (call_min2 rfl) (by rfl) B.min (by decide +kernel) (pa_cons pe_int (pa_cons (pe_callB call_len_seq (by rfl) B.len PySem.boot_len (pa_cons (pv 0) pa_nil)) pa_nil))) pa_nil))) pa_nil)) (pg_name (i := 1) scLaw.nd rfl (Or.inl rfl)) (pss_cons (ps_set (i := 2) scLaw.nd rfl (Or.inl rfl) (pe_call PL.G hr1 (by rfl) PL.g PL.k PL.b .nil pass0 (pa_cons (pv 0) (pa_cons (pv 1) pa_nil))))
      (pss_one (ps_for PassesOwn.never rfl (pi_range1 (by rfl) B.range (pa_cons pe_int pa_nil)) (pg_name (i := 3) scLaw.nd rfl (Or.inl rfl)) (pss_one (ps_if (pt_not (pt_val (pe_callG FT hr hG (by rfl) gF kF bF pass0 (pa_cons (pv 2) pa_nil)))) (pss_one (ps_ret pe_bl)) pss_nil))))))
      (pss_one (ps_ret pe_bl))), ?_⟩
    have jb : ∀ x : Int, 0 ≤ x → x ≤ 63 → 1 ≤ (if (if x < 6 then x else 6) > 1 then (if x < 6 then x else 6) else 1) ∧ (if (if x < 6 then x else 6) > 1 then (if x < 6 then x else 6) else 1) ≤ 6 := by
      intro x h0 h1
      split <;> split at * <;> omega
    obtain ⟨j1, j6⟩ := jb ((((ns.map V.int).length : Nat) : Int)) (by omega) (by rw [List.length_map]; omega)
    refine ⟨_, rfl, a, _, rfl, .inl hS, _, _, rfl, _, _, rfl, _, rfl, by omega, by omega, ?_⟩
    refine for_range (lo := 0) (fun i σ H2 => ∃ v1 v2 v3 : Option V, σ = [some (.ref a), v1, v2, v3] ∧ Same H H2) ⟨none, none, none, rfl, Same.refl _⟩ ?_ ?_
    · rintro i σ H2 hi ⟨v1, v2, v3, rfl, s2⟩
      have hi6 : i < 6 := by omega
      refine ⟨_, rfl, _, rfl, a, ns, i, by simp, s2.seq hS, by omega, fun p H3 np s3 hp3 => ?_⟩
      refine ⟨_, rfl, by decide, by decide, ?_⟩
      have s23 : Same H H3 := s2.trans s3
      have np0 : H p = none := s2.free np
      refine for_range (lo := 0) (fun t σ H4 => ∃ v3 : Option V, σ = [some (.ref a), some (.int (0 + i)), some (.ref p), v3] ∧ Same H H4 ∧ PoolAt H4 p (1000 * t)) ⟨v3, rfl, s23, hp3.le (by simp)⟩ ?_ ?_
      · rintro t σ H4 ht ⟨v3', rfl, s4, hp4⟩
        have ht6 : t < 4 := ht
        refine ⟨_, rfl, p, _, rfl, hp4, by omega, fun H5 hp5 b5 => ⟨_, rfl, iteF ?_⟩⟩
        exact ⟨_, rfl, fun b o e => b5 b o (ne_of_none e np0) (s4 b o e), hp5.le (by omega)⟩
      · rintro σ H4 ⟨v3', rfl, s4, hp4⟩
        exact ⟨_, _, _, rfl, s4⟩
    · rintro σ H2 ⟨v1, v2, v3, rfl, s2⟩
      exact q H2
end
theorem all_mk {l : PySem.W.OpenLaw} {w : World} {K : PySem.W.Frag} {h : Heap} {mg : Str → Option Value} {fa C pW f20 f1 f2 f3 f4 f5 f6 f7 f8 f9 f15 f16 f32 f33 f10 f11 f12 f14 f13 : Addr} {tL tM tN : Tok} {cE cW cN o1 o2 o3 o4 o5 o6 o7 : Addr} {nmW qnW : Str} {NAW : Addr} {bsW : List Value} {snW : List Str} {subW : List Value} {abW : Bool} {colW : Option Bool} {ddW : Option Addr} {r0W r1W r2W r3W r5W : Option Value} {nmN qnN : Str} {NAN : Addr} {bsN : List Value} {snN : List Str} {subN : List Value} {abN : Bool} {colN : Option Bool} {ddN : Option Addr} {r0N r1N r2N r3N r5N : Option Value} {nmC qC : Str} {NC : Addr} {bsC : List Value} {snC : List Str} {subC : List Value} {abC : Bool} {colC : Option Bool} {ddC : Option Addr} {m0 m1 m2 m3 m5 : Option Value} {restP : List Value} (X : K.In h) (G : h.Ns mainGlobals mg) (hfa : mg "law" = some (.ref fa))
    {od1 an1 od2 an2 od3 an3 od4 an4 od5 an5 od6 an6 od7 an7 od8 an8 od9 an9 od15 an15 od16 an16 od32 an32 od33 an33 od10 an10 od11 an11 od12 an12 od14 an14 od13 an13 : Option Addr} {sl1 sl2 sl3 sl4 sl5 sl6 sl7 sl8 sl9 sl15 sl16 sl32 sl33 sl10 sl11 sl12 sl14 sl13 : Array (Option Value)} {oc1 kV1 dc1 pm1 cd1 ct1 oc2 kV2 dc2 pm2 cd2 ct2 oc3 kV3 dc3 pm3 cd3 ct3 oc4 kV4 dc4 pm4 cd4 ct4 oc5 kV5 dc5 pm5 cd5 ct5 oc6 kV6 dc6 pm6 cd6 ct6 oc7 kV7 dc7 pm7 cd7 ct7 oc8 kV8 dc8 pm8 cd8 ct8 oc9 kV9 dc9 pm9 cd9 ct9 oc15 kV15 dc15 pm15 cd15 ct15 oc16 kV16 dc16 pm16 cd16 ct16 oc32 kV32 dc32 pm32 cd32 ct32 oc33 kV33 dc33 pm33 cd33 ct33 oc10 kV10 dc10 pm10 cd10 ct10 oc11 kV11 dc11 pm11 cd11 ct11 oc12 kV12 dc12 pm12 cd12 ct12 oc14 kV14 dc14 pm14 cd14 ct14 oc13 kV13 dc13 pm13 cd13 ct13 : Value} {od20 an20 : Option Addr} {sl20 : Array (Option Value)} {oc20 kV20 dc20 pm20 cd20 ct20 : Value}
    (a1 : PySem.W.nsIn K mainGlobals "is_letters" = some (some (.ref f1))) (l1 : K.lookup f1 = some ⟨oc1, od1, .func (PySem.W.fnOf "is_letters" "is_letters" (defArgs sIsLetters) (defBody sIsLetters) (defScope sIsLetters) .none kV1 dc1 pm1 an1 cd1 ct1), sl1⟩) (c1 : PySem.W.codeIn K cd1 "is_letters" = true) (k1 : PySem.W.keepIn K (.ref f1) = true)
    (a2 : PySem.W.nsIn K mainGlobals "is_word" = some (some (.ref f2))) (l2 : K.lookup f2 = some ⟨oc2, od2, .func (PySem.W.fnOf "is_word" "is_word" (defArgs sIsWord) (defBody sIsWord) (defScope sIsWord) .none kV2 dc2 pm2 an2 cd2 ct2), sl2⟩) (c2 : PySem.W.codeIn K cd2 "is_word" = true) (k2 : PySem.W.keepIn K (.ref f2) = true)
    (a3 : PySem.W.nsIn K mainGlobals "check_words" = some (some (.ref f3))) (l3 : K.lookup f3 = some ⟨oc3, od3, .func (PySem.W.fnOf "check_words" "check_words" (defArgs sCheckWords) (defBody sCheckWords) (defScope sCheckWords) .none kV3 dc3 pm3 an3 cd3 ct3), sl3⟩) (c3 : PySem.W.codeIn K cd3 "check_words" = true) (k3 : PySem.W.keepIn K (.ref f3) = true)
    (a4 : PySem.W.nsIn K mainGlobals "with_word" = some (some (.ref f4))) (l4 : K.lookup f4 = some ⟨oc4, od4, .func (PySem.W.fnOf "with_word" "with_word" (defArgs sWith) (defBody sWith) (defScope sWith) .none kV4 dc4 pm4 an4 cd4 ct4), sl4⟩) (c4 : PySem.W.codeIn K cd4 "with_word" = true) (k4 : PySem.W.keepIn K (.ref f4) = true)
    (a5 : PySem.W.nsIn K mainGlobals "without_word" = some (some (.ref f5))) (l5 : K.lookup f5 = some ⟨oc5, od5, .func (PySem.W.fnOf "without_word" "without_word" (defArgs sWithout) (defBody sWithout) (defScope sWithout) .none kV5 dc5 pm5 an5 cd5 ct5), sl5⟩) (c5 : PySem.W.codeIn K cd5 "without_word" = true) (k5 : PySem.W.keepIn K (.ref f5) = true)
    (a6 : PySem.W.nsIn K mainGlobals "_law_pool" = some (some (.ref f6))) (l6 : K.lookup f6 = some ⟨oc6, od6, .func (PySem.W.fnOf "_law_pool" "_law_pool" (defArgs sPool) (defBody sPool) (defScope sPool) .none kV6 dc6 pm6 an6 cd6 ct6), sl6⟩) (c6 : PySem.W.codeIn K cd6 "_law_pool" = true) (k6 : PySem.W.keepIn K (.ref f6) = true)
    (a7 : PySem.W.nsIn K mainGlobals "_law_draw" = some (some (.ref f7))) (l7 : K.lookup f7 = some ⟨oc7, od7, .func (PySem.W.fnOf "_law_draw" "_law_draw" (defArgs sDraw) (defBody sDraw) (defScope sDraw) .none kV7 dc7 pm7 an7 cd7 ct7), sl7⟩) (c7 : PySem.W.codeIn K cd7 "_law_draw" = true) (k7 : PySem.W.keepIn K (.ref f7) = true)
    (a8 : PySem.W.nsIn K mainGlobals "_law_word" = some (some (.ref f8))) (l8 : K.lookup f8 = some ⟨oc8, od8, .func (PySem.W.fnOf "_law_word" "_law_word" (defArgs sWord) (defBody sWord) (defScope sWord) .none kV8 dc8 pm8 an8 cd8 ct8), sl8⟩) (c8 : PySem.W.codeIn K cd8 "_law_word" = true) (k8 : PySem.W.keepIn K (.ref f8) = true)
    (a9 : PySem.W.nsIn K mainGlobals "_law_lot" = some (some (.ref f9))) (l9 : K.lookup f9 = some ⟨oc9, od9, .func (PySem.W.fnOf "_law_lot" "_law_lot" (defArgs sLot) (defBody sLot) (defScope sLot) .none kV9 dc9 pm9 an9 cd9 ct9), sl9⟩) (c9 : PySem.W.codeIn K cd9 "_law_lot" = true) (k9 : PySem.W.keepIn K (.ref f9) = true)
    (a15 : PySem.W.nsIn K mainGlobals "_law_fault" = some (some (.ref f15))) (l15 : K.lookup f15 = some ⟨oc15, od15, .func (PySem.W.fnOf "_law_fault" "_law_fault" (defArgs sFault) (defBody sFault) (defScope sFault) .none kV15 dc15 pm15 an15 cd15 ct15), sl15⟩) (c15 : PySem.W.codeIn K cd15 "_law_fault" = true) (k15 : PySem.W.keepIn K (.ref f15) = true)
    (a16 : PySem.W.nsIn K mainGlobals "_law_odd" = some (some (.ref f16))) (l16 : K.lookup f16 = some ⟨oc16, od16, .func (PySem.W.fnOf "_law_odd" "_law_odd" (defArgs sOdd) (defBody sOdd) (defScope sOdd) .none kV16 dc16 pm16 an16 cd16 ct16), sl16⟩) (c16 : PySem.W.codeIn K cd16 "_law_odd" = true) (k16 : PySem.W.keepIn K (.ref f16) = true)
    (a32 : PySem.W.nsIn K mainGlobals "_law_flagged" = some (some (.ref f32))) (l32 : K.lookup f32 = some ⟨oc32, od32, .func (PySem.W.fnOf "_law_flagged" "_law_flagged" (defArgs sFlagged) (defBody sFlagged) (defScope sFlagged) .none kV32 dc32 pm32 an32 cd32 ct32), sl32⟩) (c32 : PySem.W.codeIn K cd32 "_law_flagged" = true) (k32 : PySem.W.keepIn K (.ref f32) = true)
    (a33 : PySem.W.nsIn K mainGlobals "_law_caught" = some (some (.ref f33))) (l33 : K.lookup f33 = some ⟨oc33, od33, .func (PySem.W.fnOf "_law_caught" "_law_caught" (defArgs sCaught) (defBody sCaught) (defScope sCaught) .none kV33 dc33 pm33 an33 cd33 ct33), sl33⟩) (c33 : PySem.W.codeIn K cd33 "_law_caught" = true) (k33 : PySem.W.keepIn K (.ref f33) = true)
    (a10 : PySem.W.nsIn K mainGlobals "_law_fits" = some (some (.ref f10))) (l10 : K.lookup f10 = some ⟨oc10, od10, .func (PySem.W.fnOf "_law_fits" "_law_fits" (defArgs sFits) (defBody sFits) (defScope sFits) .none kV10 dc10 pm10 an10 cd10 ct10), sl10⟩) (c10 : PySem.W.codeIn K cd10 "_law_fits" = true) (k10 : PySem.W.keepIn K (.ref f10) = true)
    (a11 : PySem.W.nsIn K mainGlobals "law" = some (some (.ref f11))) (l11 : K.lookup f11 = some ⟨oc11, od11, .func (PySem.W.fnOf "law" "law" (defArgs sLaw) (defBody sLaw) (defScope sLaw) .none kV11 dc11 pm11 an11 cd11 ct11), sl11⟩) (c11 : PySem.W.codeIn K cd11 "law" = true) (k11 : PySem.W.keepIn K (.ref f11) = true)
    (a12 : PySem.W.findIn K (.ref C) "__init__" = some (some (.ref f12))) (i12 : PySem.W.isFn K (.ref f12) = true) (l12 : K.lookup f12 = some ⟨oc12, od12, .func (PySem.W.fnOf "__init__" "Stock.__init__" (defArgs sSInit) (defBody sSInit) (defScope sSInit) .none kV12 dc12 pm12 an12 cd12 ct12), sl12⟩) (c12 : PySem.W.codeIn K cd12 "Stock.__init__" = true) (k12 : PySem.W.keepIn K (.ref f12) = true)
    (l14 : K.lookup f14 = some ⟨oc14, od14, .func (PySem.W.fnOf "words" "Stock.words" (defArgs sSWords) (defBody sSWords) (defScope sSWords) .none kV14 dc14 pm14 an14 cd14 ct14), sl14⟩) (c14 : PySem.W.codeIn K cd14 "Stock.words" = true) (k14 : PySem.W.keepIn K (.ref f14) = true)
    (a13 : PySem.W.findIn K (.ref C) "__eq__" = some (some (.ref f13))) (i13 : PySem.W.isFn K (.ref f13) = true) (l13 : K.lookup f13 = some ⟨oc13, od13, .func (PySem.W.fnOf "__eq__" "Stock.__eq__" (defArgs sSEq) (defBody sSEq) (defScope sSEq) .none kV13 dc13 pm13 an13 cd13 ct13), sl13⟩) (c13 : PySem.W.codeIn K cd13 "Stock.__eq__" = true) (k13 : PySem.W.keepIn K (.ref f13) = true)
    (vL : PySem.W.nsIn K mainGlobals "LETTERS" = some (some (.str LET tL)))
    (vM : PySem.W.nsIn K mainGlobals "MOST_LETTERS" = some (some (.int 8 tM)))
    (vN : PySem.W.nsIn K mainGlobals "MOST_WORDS" = some (some (.int 8 tN)))
    (z_len : PySem.W.nsIn K mainGlobals "len" = some none)
    (z_max : PySem.W.nsIn K mainGlobals "max" = some none)
    (z_min : PySem.W.nsIn K mainGlobals "min" = some none)
    (z_abs : PySem.W.nsIn K mainGlobals "abs" = some none)
    (z_int : PySem.W.nsIn K mainGlobals "int" = some none)
    (z_range : PySem.W.nsIn K mainGlobals "range" = some none)
    (z_all : PySem.W.nsIn K mainGlobals "all" = some none)
    (z_set : PySem.W.nsIn K mainGlobals "set" = some none)
    (z_tuple : PySem.W.nsIn K mainGlobals "tuple" = some none)
    (z_list : PySem.W.nsIn K mainGlobals "list" = some none)
    (z_isinstance : PySem.W.nsIn K mainGlobals "isinstance" = some none)
    (z_repr : PySem.W.nsIn K mainGlobals "repr" = some none)
    (z_ValueError : PySem.W.nsIn K mainGlobals "ValueError" = some none)
    (z_enumerate : PySem.W.nsIn K mainGlobals "enumerate" = some none)
    (aC : PySem.W.nsIn K mainGlobals "Stock" = some (some (.ref C)))
    (pg : PySem.W.plainGet K C Str.empty = true)
    (hd : PySem.W.hasDictIn K C = true)
    (po : PySem.W.plainOver K C = true)
    (sa : PySem.W.findIn K (.ref C) "__setattr__" = some (some (.builtin "object.__setattr__")))
    (mk : PySem.W.makesIn K C = true)
    (kc : PySem.W.keepIn K (.ref C) = true)
    (nW : PySem.W.findIn K (.ref C) "_words" = some none)
    (xC : K.lookup C = some (excClassObj nmC qC C NC bsC [.type "object"] true snC subC abC colC ddC m0 m1 m2 m3 m5 "object.__new__"))
    (ne : PySem.W.findIn K (.ref C) "__ne__" = some (some (.builtin "object.__ne__")))
    (pa : PySem.W.findIn K (.ref C) "words" = some (some (.ref pW)))
    (pget : PySem.W.specialIn K (.ref pW) "__get__" = some (some (.builtin "property.__get__")))
    (ptk : PySem.W.takesIn K (.ref pW) = some true)
    (prc : PySem.W.recIn K pW "property" = some (.ref f14 :: restP))
    (ha : PySem.W.findIn K (.ref C) "__class__" = some (some (.builtin "object.__class__")))
    (hn : PySem.W.specialIn K (.builtin "object.__class__") "__get__" = some (some (.builtin "getset_descriptor.__get__")))
    (htk : PySem.W.takesIn K (.builtin "object.__class__") = some true)
    (hm : PySem.W.mroIn K C (.type "object") = some true)
    (ki : PySem.W.kitOne K (.ref C) (.ref C) = some true)
    (n_cE : PySem.W.nsIn K mainGlobals "WordError" = some (some (.ref cE)))
    (n_cW : PySem.W.nsIn K mainGlobals "InvalidWord" = some (some (.ref cW)))
    (n_cN : PySem.W.nsIn K mainGlobals "InvalidNumber" = some (some (.ref cN)))
    (n_o1 : PySem.W.nsIn K mainGlobals "InvalidReading" = some (some (.ref o1)))
    (n_o2 : PySem.W.nsIn K mainGlobals "InvalidText" = some (some (.ref o2)))
    (n_o3 : PySem.W.nsIn K mainGlobals "NotApart" = some (some (.ref o3)))
    (n_o4 : PySem.W.nsIn K mainGlobals "NotOneWay" = some (some (.ref o4)))
    (n_o5 : PySem.W.nsIn K mainGlobals "NothingToUndo" = some (some (.ref o5)))
    (n_o6 : PySem.W.nsIn K mainGlobals "TooMany" = some (some (.ref o6)))
    (n_o7 : PySem.W.nsIn K mainGlobals "Unreadable" = some (some (.ref o7)))
    (xW : K.lookup cW = some (excClassObj nmW qnW cW NAW bsW [.ref cE, .type "ValueError", .type "Exception", .type "BaseException", .type "object"] true snW subW abW colW ddW r0W r1W r2W r3W r5W "ValueError.__new__"))
    (saW : PySem.W.findIn K (.ref cW) "__setattr__" = some (some (.builtin "object.__setattr__")))
    (exW : PySem.W.subIn K (.ref cW) (.type "BaseException") = some true)
    (tyW : PySem.W.typeIn K (.ref cW) = some (.type "type"))
    (kpW : PySem.W.keepIn K (.ref cW) = true)
    (nvW : PySem.W.findIn K (.ref cW) "value" = some none)
    (gaW : PySem.W.findIn K (.ref cW) "__getattribute__" = some (some (.builtin "BaseException.__getattribute__")))
    (ggW : PySem.W.findIn K (.ref cW) "__getattr__" = some none)
    (hdW : PySem.W.hasDictIn K cW = true)
    (haW : PySem.W.findIn K (.ref cW) "__class__" = some (some (.builtin "object.__class__")))
    (hmW : PySem.W.mroIn K cW (.type "object") = some true)
    (wSW : PySem.W.subIn K (.ref cW) (.ref cE) = some true)
    (vSW : PySem.W.subIn K (.ref cW) (.type "ValueError") = some true)
    (qcW : PySem.W.isClsIn K cW = true)
    (aiW : PySem.W.findIn K (.ref cW) "__init__" = some (some (.ref f20)))
    (uW1 : PySem.W.subIn K (.ref cW) (.ref o1) = some false)
    (neW1 : cW ≠ o1)
    (uW2 : PySem.W.subIn K (.ref cW) (.ref o2) = some false)
    (neW2 : cW ≠ o2)
    (uW3 : PySem.W.subIn K (.ref cW) (.ref o3) = some false)
    (neW3 : cW ≠ o3)
    (uW4 : PySem.W.subIn K (.ref cW) (.ref o4) = some false)
    (neW4 : cW ≠ o4)
    (uW5 : PySem.W.subIn K (.ref cW) (.ref o5) = some false)
    (neW5 : cW ≠ o5)
    (uW6 : PySem.W.subIn K (.ref cW) (.ref o6) = some false)
    (neW6 : cW ≠ o6)
    (uW7 : PySem.W.subIn K (.ref cW) (.ref o7) = some false)
    (neW7 : cW ≠ o7)
    (uWN : PySem.W.subIn K (.ref cW) (.ref cN) = some false)
    (neWN : cW ≠ cN)
    (xN : K.lookup cN = some (excClassObj nmN qnN cN NAN bsN [.ref cE, .type "ValueError", .type "Exception", .type "BaseException", .type "object"] true snN subN abN colN ddN r0N r1N r2N r3N r5N "ValueError.__new__"))
    (saN : PySem.W.findIn K (.ref cN) "__setattr__" = some (some (.builtin "object.__setattr__")))
    (exN : PySem.W.subIn K (.ref cN) (.type "BaseException") = some true)
    (tyN : PySem.W.typeIn K (.ref cN) = some (.type "type"))
    (kpN : PySem.W.keepIn K (.ref cN) = true)
    (nvN : PySem.W.findIn K (.ref cN) "value" = some none)
    (gaN : PySem.W.findIn K (.ref cN) "__getattribute__" = some (some (.builtin "BaseException.__getattribute__")))
    (ggN : PySem.W.findIn K (.ref cN) "__getattr__" = some none)
    (hdN : PySem.W.hasDictIn K cN = true)
    (haN : PySem.W.findIn K (.ref cN) "__class__" = some (some (.builtin "object.__class__")))
    (hmN : PySem.W.mroIn K cN (.type "object") = some true)
    (wSN : PySem.W.subIn K (.ref cN) (.ref cE) = some true)
    (vSN : PySem.W.subIn K (.ref cN) (.type "ValueError") = some true)
    (qcN : PySem.W.isClsIn K cN = true)
    (uN1 : PySem.W.subIn K (.ref cN) (.ref o1) = some false)
    (neN1 : cN ≠ o1)
    (uN2 : PySem.W.subIn K (.ref cN) (.ref o2) = some false)
    (neN2 : cN ≠ o2)
    (uN3 : PySem.W.subIn K (.ref cN) (.ref o3) = some false)
    (neN3 : cN ≠ o3)
    (uN4 : PySem.W.subIn K (.ref cN) (.ref o4) = some false)
    (neN4 : cN ≠ o4)
    (uN5 : PySem.W.subIn K (.ref cN) (.ref o5) = some false)
    (neN5 : cN ≠ o5)
    (uN6 : PySem.W.subIn K (.ref cN) (.ref o6) = some false)
    (neN6 : cN ≠ o6)
    (uN7 : PySem.W.subIn K (.ref cN) (.ref o7) = some false)
    (neN7 : cN ≠ o7)
    (uNW : PySem.W.subIn K (.ref cN) (.ref cW) = some false)
    (neNW : cN ≠ cW)
    (wB : PySem.W.subIn K (.ref cE) (.type "BaseException") = some true)
    (wD : PySem.W.hasDictIn K cE = true)
    (wT : PySem.W.typeIn K (.ref cE) = some (.type "type"))
    (q1 : PySem.W.isClsIn K o1 = true)
    (y1 : PySem.W.typeIn K (.ref o1) = some (.type "type"))
    (q2 : PySem.W.isClsIn K o2 = true)
    (y2 : PySem.W.typeIn K (.ref o2) = some (.type "type"))
    (q3 : PySem.W.isClsIn K o3 = true)
    (y3 : PySem.W.typeIn K (.ref o3) = some (.type "type"))
    (q4 : PySem.W.isClsIn K o4 = true)
    (y4 : PySem.W.typeIn K (.ref o4) = some (.type "type"))
    (q5 : PySem.W.isClsIn K o5 = true)
    (y5 : PySem.W.typeIn K (.ref o5) = some (.type "type"))
    (q6 : PySem.W.isClsIn K o6 = true)
    (y6 : PySem.W.typeIn K (.ref o6) = some (.type "type"))
    (q7 : PySem.W.isClsIn K o7 = true)
    (y7 : PySem.W.typeIn K (.ref o7) = some (.type "type"))
    (a20 : PySem.W.findIn K (.ref cN) "__init__" = some (some (.ref f20))) (t20 : PySem.W.typeIn K (.ref f20) = some (.type "function")) (l20 : K.lookup f20 = some ⟨oc20, od20, .func (PySem.W.fnOf "__init__" "WordError.__init__" (defArgs sEInit) (defBody sEInit) (defScope sEInit) .none kV20 dc20 pm20 an20 cd20 ct20), sl20⟩) (c20 : PySem.W.codeIn K cd20 "WordError.__init__" = true) (k20 : PySem.W.keepIn K (.ref f20) = true) :
    ∃ fd : FuncData, (∀ (s : Shared) (v : Value), BindsTo s fd ⟨[v], []⟩ [("script", v)]) ∧ ∀ base : Heap, K.In base → base.Ns mainGlobals mg → FnG l.prog w K mg base CX0 9 fa fd ["script"] (spLaw K) := by
  have e := hfa.symm.trans (PySem.W.mg_of X G a11)
  cases e
  have F1 := fun_mk (st := sIsLetters) l1 c1 k1
  have F2 := fun_mk (st := sIsWord) l2 c2 k2
  have F3 := fun_mk (st := sCheckWords) l3 c3 k3
  have F4 := fun_mk (st := sWith) l4 c4 k4
  have F5 := fun_mk (st := sWithout) l5 c5 k5
  have F6 := fun_mk (st := sPool) l6 c6 k6
  have F7 := fun_mk (st := sDraw) l7 c7 k7
  have F8 := fun_mk (st := sWord) l8 c8 k8
  have F9 := fun_mk (st := sLot) l9 c9 k9
  have F15 := fun_mk (st := sFault) l15 c15 k15
  have F16 := fun_mk (st := sOdd) l16 c16 k16
  have F32 := fun_mk (st := sFlagged) l32 c32 k32
  have F33 := fun_mk (st := sCaught) l33 c33 k33
  have F10 := fun_mk (st := sFits) l10 c10 k10
  have F11 := fun_mk (st := sLaw) l11 c11 k11
  have F12 := fun_mk (st := sSInit) l12 c12 k12
  have F14 := fun_mk (st := sSWords) l14 c14 k14
  have F13 := fun_mk (st := sSEq) l13 c13 k13
  have F20 := fun_mk (st := sEInit) l20 c20 k20
  have b1 := F1.binds (ps := ["text"]) fun _ _ _ _ _ _ us hl => match us, hl with | [_], _ => rfl
  have b2 := F2.binds (ps := ["text"]) fun _ _ _ _ _ _ us hl => match us, hl with | [_], _ => rfl
  have b3 := F3.binds (ps := ["words"]) fun _ _ _ _ _ _ us hl => match us, hl with | [_], _ => rfl
  have b4 := F4.binds (ps := ["stock", "word"]) fun _ _ _ _ _ _ us hl => match us, hl with | [_, _], _ => rfl
  have b5 := F5.binds (ps := ["stock", "word"]) fun _ _ _ _ _ _ us hl => match us, hl with | [_, _], _ => rfl
  have b6 := F6.binds (ps := ["script", "spot"]) fun _ _ _ _ _ _ us hl => match us, hl with | [_, _], _ => rfl
  have b7 := F7.binds (ps := ["pool", "span"]) fun _ _ _ _ _ _ us hl => match us, hl with | [_, _], _ => rfl
  have b8 := F8.binds (ps := ["pool", "widest", "signs"]) fun _ _ _ _ _ _ us hl => match us, hl with | [_, _, _], _ => rfl
  have b9 := F9.binds (ps := ["pool", "many", "widest"]) fun _ _ _ _ _ _ us hl => match us, hl with | [_, _, _], _ => rfl
  have b15 := F15.binds (ps := ["lot"]) fun _ _ _ _ _ _ us hl => match us, hl with | [_], _ => rfl
  have b16 := F16.binds (ps := ["pool", "lot"]) fun _ _ _ _ _ _ us hl => match us, hl with | [_, _], _ => rfl
  have b32 := F32.binds (ps := ["e"]) fun _ _ _ _ _ _ us hl => match us, hl with | [_], _ => rfl
  have b33 := F33.binds (ps := ["way", "made", "thing"]) fun _ _ _ _ _ _ us hl => match us, hl with | [_, _, _], _ => rfl
  have b10 := F10.binds (ps := ["pool"]) fun _ _ _ _ _ _ us hl => match us, hl with | [_], _ => rfl
  have b12 := F12.binds (ps := ["self", "words"]) fun _ _ _ _ _ _ us hl => match us, hl with | [_, _], _ => rfl
  have b14 := F14.binds (ps := ["self"]) fun _ _ _ _ _ _ us hl => match us, hl with | [_], _ => rfl
  have b20 := F20.binds (ps := ["self", "value"]) fun _ _ _ _ _ _ us hl => match us, hl with | [_, _], _ => rfl
  have B : Bu mg := ⟨PySem.W.mg_none_of X G z_len, PySem.W.mg_none_of X G z_max, PySem.W.mg_none_of X G z_min, PySem.W.mg_none_of X G z_abs, PySem.W.mg_none_of X G z_int, PySem.W.mg_none_of X G z_range⟩
  have T : StkC K mg C f12 f13 f14 := ⟨⟨pg, hd, po, sa⟩, nW, PySem.W.mg_of X G aC, ⟨mk, a12, i12, kc⟩, ⟨⟨_, _, _, _, _, _, _, _, _, _, _, _, _, _, xC⟩, a13, ne, i13⟩, ⟨pW, pa, pget, ptk, ⟨_, prc⟩⟩, ha, hn, htk, hm, ki⟩
  have BX : BuX mg := ⟨B, PySem.W.mg_none_of X G z_repr⟩
  have kbi : KBn K _ ["self", "words"] 1 ["words"] (fun us ws => us ++ ws) (fun us ws => us ++ ws) := kbn_words F12 fun _ _ _ _ _ _ us ws h1 h2 => match us, ws, h1, h2 with | [_], [_], _, _ => rfl
  have kbI : KBinds K _ ["stock", "word"] ["word", "stock"] gTurn gTurn := kbinds_of F4 gTurn gTurn gTurn_rel fun _ _ _ _ _ _ us ws hl => by
    obtain ⟨rfl, x, y, rfl⟩ := gTurn_two hl
    rfl
  have kbO : KBinds K _ ["stock", "word"] ["word", "stock"] gTurn gTurn := kbinds_of F5 gTurn gTurn gTurn_rel fun _ _ _ _ _ _ us ws hl => by
    obtain ⟨rfl, x, y, rfl⟩ := gTurn_two hl
    rfl
  have CW : ErrC K mg "InvalidWord" cW f20 := ⟨⟨⟨_, _, _, _, _, _, _, _, _, _, _, _, _, _, _, xW, by show PySem.HandSPX.refsVE [.type "ValueError", .type "Exception", .type "BaseException", .type "object"] = true; decide +kernel⟩, saW, exW, tyW, kpW⟩, PySem.W.mg_of X G n_cW, nvW, aiW, t20⟩
  have CN : ErrC K mg "InvalidNumber" cN f20 := ⟨⟨⟨_, _, _, _, _, _, _, _, _, _, _, _, _, _, _, xN, by show PySem.HandSPX.refsVE [.type "ValueError", .type "Exception", .type "BaseException", .type "object"] = true; decide +kernel⟩, saN, exN, tyN, kpN⟩, PySem.W.mg_of X G n_cN, nvN, a20, t20⟩
  have TW : Tell K cE cW cN o1 o2 o3 o4 o5 o6 o7 cW true false := ⟨⟨gaW, ggW, exW, hdW, haW, hn, htk, hmW⟩, ⟨gaW, ggW, exW, hdW⟩, nvW, PySem.W.exm_ref wB wD wT wSW, kit_any (fun c hc => by
      simp only [List.mem_cons, List.not_mem_nil, or_false] at hc
      rcases hc with rfl | rfl | rfl | rfl | rfl | rfl | rfl
      · exact kit_ref q1 y1 uW1 (.inr neW1)
      · exact kit_ref q2 y2 uW2 (.inr neW2)
      · exact kit_ref q3 y3 uW3 (.inr neW3)
      · exact kit_ref q4 y4 uW4 (.inr neW4)
      · exact kit_ref q5 y5 uW5 (.inr neW5)
      · exact kit_ref q6 y6 uW6 (.inr neW6)
      · exact kit_ref q7 y7 uW7 (.inr neW7)), kit_VE vSW, kit_self, kit_ref qcN tyN uWN (.inr neWN)⟩
  have TN : Tell K cE cW cN o1 o2 o3 o4 o5 o6 o7 cN false true := ⟨⟨gaN, ggN, exN, hdN, haN, hn, htk, hmN⟩, ⟨gaN, ggN, exN, hdN⟩, nvN, PySem.W.exm_ref wB wD wT wSN, kit_any (fun c hc => by
      simp only [List.mem_cons, List.not_mem_nil, or_false] at hc
      rcases hc with rfl | rfl | rfl | rfl | rfl | rfl | rfl
      · exact kit_ref q1 y1 uN1 (.inr neN1)
      · exact kit_ref q2 y2 uN2 (.inr neN2)
      · exact kit_ref q3 y3 uN3 (.inr neN3)
      · exact kit_ref q4 y4 uN4 (.inr neN4)
      · exact kit_ref q5 y5 uN5 (.inr neN5)
      · exact kit_ref q6 y6 uN6 (.inr neN6)
      · exact kit_ref q7 y7 uN7 (.inr neN7)), kit_VE vSN, kit_ref qcW tyW uNW (.inr neNW), kit_self⟩
  have KN : Kinds mg cE cW cN o1 o2 o3 o4 o5 o6 o7 := ⟨PySem.W.mg_of X G n_cE, PySem.W.mg_of X G n_cW, PySem.W.mg_of X G n_cN, PySem.W.mg_of X G n_o1, PySem.W.mg_of X G n_o2, PySem.W.mg_of X G n_o3, PySem.W.mg_of X G n_o4, PySem.W.mg_of X G n_o5, PySem.W.mg_of X G n_o6, PySem.W.mg_of X G n_o7, PySem.W.mg_none_of X G z_ValueError⟩
  refine ⟨PySem.W.fnOf "law" "law" (defArgs sLaw) (defBody sLaw) (defScope sLaw) .none kV11 dc11 pm11 an11 cd11 ct11, fun s v => .of_eq rfl, fun base _ _ => ?_⟩
  have G1 : FnOk l.prog w K mg base CX0 1 f1 _ ["text"] spIsLetters := ok_isLetters F1 (PySem.W.mg_of X G vL) (PySem.W.mg_none_of X G z_all)
  have G2 : FnOk l.prog w K mg base CX0 2 f2 _ ["text"] spIsWord := ok_isWord F2 G1 b1 k1 (PySem.W.mg_of X G a1) (PySem.W.mg_of X G vM) B.len
  have G3 : FnOk l.prog w K mg base CX0 3 f3 _ ["words"] (spCheckWords K) := ok_checkWords F3 G2 b2 k2 (PySem.W.mg_of X G a2) (PySem.W.mg_of X G vN) B.len (PySem.W.mg_none_of X G z_set)
  have G12 : FnOk l.prog w K mg base CX0 4 f12 _ ["self", "words"] (spSInit K C) := ok_sinit F12 T G3 b3 k3 (PySem.W.mg_of X G a3) (PySem.W.mg_none_of X G z_tuple)
  have G14 : FnOk l.prog w K mg base CX0 1 f14 _ ["self"] (spSWords C) := ok_swords F14 T (PySem.W.mg_none_of X G z_list)
  have G20 : FnOk l.prog w K mg base CX0 1 f20 _ ["self", "value"] (spEInit K) := ok_einit F20
  have EW : ErrX l.prog w K mg base "InvalidWord" cW f20 _ := ⟨CW, G20, b20⟩
  have EN : ErrX l.prog w K mg base "InvalidNumber" cN f20 _ := ⟨CN, G20, b20⟩
  have X3 : FnOk l.prog w K mg base (L2.CX l.prog w) 3 f3 _ ["words"] (spCheckWordsX K cW cN) := ok_checkWordsX F3 ⟨G2, b2, k2, PySem.W.mg_of X G a2⟩ EW EN (PySem.W.mg_of X G vN) B.len (PySem.W.mg_none_of X G z_set)
  have X12 : FnOk l.prog w K mg base (L2.CX l.prog w) 4 f12 _ ["self", "words"] (spSInitX K C cW cN) := ok_sinitX F12 T ⟨X3, b3, k3, PySem.W.mg_of X G a3⟩ (PySem.W.mg_none_of X G z_tuple)
  have X4 : FnOk l.prog w K mg base (L2.CX l.prog w) 6 f4 _ ["stock", "word"] (spWithX C cW cN) := ok_withX F4 T X12 b12 G14 b14
  have X5 : FnOk l.prog w K mg base (L2.CX l.prog w) 6 f5 _ ["stock", "word"] (spWithoutX C cW cN) := ok_withoutX F5 T X12 b12 G14 b14 EW
  have G6 : FnOk l.prog w K mg base CX0 1 f6 _ ["script", "spot"] (spPool K) := ok_pool F6 B
  have G7 : FnOk l.prog w K mg base CX0 1 f7 _ ["pool", "span"] spDraw := ok_draw F7 B
  have G8 : FnOk l.prog w K mg base CX0 2 f8 _ ["pool", "widest", "signs"] spWord := ok_word F8 B G7 b7 k7 (PySem.W.mg_of X G a7)
  have G9 : FnOk l.prog w K mg base CX0 3 f9 _ ["pool", "many", "widest"] spLot := ok_lot F9 B G7 b7 k7 (PySem.W.mg_of X G a7) G8 b8 k8 (PySem.W.mg_of X G a8)
  have G15 : FnOk l.prog w K mg base CX0 1 f15 _ ["lot"] (spFault K) := ok_fault F15 B (PySem.W.mg_none_of X G z_enumerate)
  have G16 : FnOk l.prog w K mg base CX0 2 f16 _ ["pool", "lot"] spOdd := ok_odd F16 B ⟨G7, b7, k7, PySem.W.mg_of X G a7⟩
  have G32 : FnP l.prog w K mg base 1 f32 _ ["e"] (spFlag K cE cW cN o1 o2 o3 o4 o5 o6 o7) := ok_flagged F32 KN (PySem.W.mg_none_of X G z_isinstance)
  have G33 : FnOk l.prog w K mg base CX0 7 f33 _ ["way", "made", "thing"] (spCaught K C) := ok_caught F33 KN TW TN T G32 b32 k32 (PySem.W.mg_of X G a32) X12 b12 kbi ⟨X4, b4, k4, PySem.W.mg_of X G a4⟩ kbI ⟨X5, b5, k5, PySem.W.mg_of X G a5⟩ kbO
  have G10 : FnG l.prog w K mg base CX0 8 f10 _ ["pool"] spFits := ok_fits F10 BX T G12 b12 G14 b14 ⟨G7, b7, k7, PySem.W.mg_of X G a7⟩ ⟨G8, b8, k8, PySem.W.mg_of X G a8⟩ ⟨G9, b9, k9, PySem.W.mg_of X G a9⟩ ⟨G16, b16, k16, PySem.W.mg_of X G a16⟩ ⟨G15, b15, k15, PySem.W.mg_of X G a15⟩ ⟨G33, b33, k33, PySem.W.mg_of X G a33⟩
  exact ok_law F11 B ⟨G6, b6, k6, PySem.W.mg_of X G a6⟩ G10 b10 k10 (PySem.W.mg_of X G a10)
theorem walk {l : PySem.W.OpenLaw} {q : Program} {loose : List Str} {XP : (Str → Option Value) → Heap → Prop} {YP : World → Heap → Prop} {d : DefRec} {K : Params → PySem.W.Frag} (hn : l.most = some 63) (hdf : d.params.defaults = [])
    (hY : ∀ (w : World) (h : Heap), YP w h → (K w.params).In h)
    (F : ∀ (w : World) (mg : Str → Option Value) (fa : Addr) (h : Heap), (K w.params).In h → h.Ns mainGlobals mg → mg d.name = some (.ref fa) →
      ∃ fd : FuncData, (∀ (s : Shared) (u : Value), BindsTo s fd ⟨[u], []⟩ [("script", u)]) ∧ ∀ base : Heap, (K w.params).In base → base.Ns mainGlobals mg → FnG l.prog w (K w.params) mg base CX0 9 fa fd ["script"] (spLaw (K w.params))) :
    PySem.W.WalkO q loose XP YP l.row.toRowW d [] (fun f vs => PySem.call f vs) :=
  walk_G (n := 63) (k := 9) (x := "script") (sp := fun w => spLaw (K w.params)) hn (by decide) hdf ⟨rfl, by decide, by decide⟩ hY F (fun _ _ a ns hl _ hS => ⟨a, ns, rfl, hS, hl, fun _ => rfl⟩)
end WH
open PySem PySem.W PyProof.Rows
set_option maxRecDepth 100000 in
set_option maxHeartbeats 0 in
theorem PySem.Challenge.cw_wordhulls_k03_errors_of_stocks_holds : PySem.Challenge.rw_wordhulls_k03_errors_of_stocks.Holds := by
  w_on; o_law; k_head; (case hw => w_witness2)
  k_fill
  refine WH.walk (l := PySem.Challenge.rw_wordhulls_k03_errors_of_stocks) rfl rfl (fun w h Y => PySem.W.kIn_of Y) ?F
  case F =>
    intro w mg fa h KX G hmg
    refine' WH.all_mk KX G hmg ?a1 ?l1 ?c1 ?k1 ?a2 ?l2 ?c2 ?k2 ?a3 ?l3 ?c3 ?k3 ?a4 ?l4 ?c4 ?k4 ?a5 ?l5 ?c5 ?k5 ?a6 ?l6 ?c6 ?k6 ?a7 ?l7 ?c7 ?k7 ?a8 ?l8 ?c8 ?k8 ?a9 ?l9 ?c9 ?k9 ?a15 ?l15 ?c15 ?k15 ?a16 ?l16 ?c16 ?k16 ?a32 ?l32 ?c32 ?k32 ?a33 ?l33 ?c33 ?k33 ?a10 ?l10 ?c10 ?k10 ?a11 ?l11 ?c11 ?k11 ?a12 ?i12 ?l12 ?c12 ?k12 ?l14 ?c14 ?k14 ?a13 ?i13 ?l13 ?c13 ?k13 ?vL ?vM ?vN ?z_len ?z_max ?z_min ?z_abs ?z_int ?z_range ?z_all ?z_set ?z_tuple ?z_list ?z_isinstance ?z_repr ?z_ValueError ?z_enumerate ?aC ?pg ?hd ?po ?sa ?mk ?kc ?nW ?xC ?ne ?pa ?pget ?ptk ?prc ?ha ?hn ?htk ?hm ?ki ?n_cE ?n_cW ?n_cN ?n_o1 ?n_o2 ?n_o3 ?n_o4 ?n_o5 ?n_o6 ?n_o7 ?xW ?saW ?exW ?tyW ?kpW ?nvW ?gaW ?ggW ?hdW ?haW ?hmW ?wSW ?vSW ?qcW ?aiW ?uW1 ?neW1 ?uW2 ?neW2 ?uW3 ?neW3 ?uW4 ?neW4 ?uW5 ?neW5 ?uW6 ?neW6 ?uW7 ?neW7 ?uWN ?neWN ?xN ?saN ?exN ?tyN ?kpN ?nvN ?gaN ?ggN ?hdN ?haN ?hmN ?wSN ?vSN ?qcN ?uN1 ?neN1 ?uN2 ?neN2 ?uN3 ?neN3 ?uN4 ?neN4 ?uN5 ?neN5 ?uN6 ?neN6 ?uN7 ?neN7 ?uNW ?neNW ?wB ?wD ?wT ?q1 ?y1 ?q2 ?y2 ?q3 ?y3 ?q4 ?y4 ?q5 ?y5 ?q6 ?y6 ?q7 ?y7 ?a20 ?t20 ?l20 ?c20 ?k20
    (case aC => k_is)
    (case pa => k_is)
    (case prc => k_is)
    (case n_cE => k_is)
    (case n_cW => k_is)
    (case n_cN => k_is)
    (case n_o1 => k_is)
    (case n_o2 => k_is)
    (case n_o3 => k_is)
    (case n_o4 => k_is)
    (case n_o5 => k_is)
    (case n_o6 => k_is)
    (case n_o7 => k_is)
    (case a1 => k_is)
    (case l1 => k_is)
    (case c1 => k_is)
    (case k1 => k_is)
    (case a2 => k_is)
    (case l2 => k_is)
    (case c2 => k_is)
    (case k2 => k_is)
    (case a3 => k_is)
    (case l3 => k_is)
    (case c3 => k_is)
    (case k3 => k_is)
    (case a4 => k_is)
    (case l4 => k_is)
    (case c4 => k_is)
    (case k4 => k_is)
    (case a5 => k_is)
    (case l5 => k_is)
    (case c5 => k_is)
    (case k5 => k_is)
    (case a6 => k_is)
    (case l6 => k_is)
    (case c6 => k_is)
    (case k6 => k_is)
    (case a7 => k_is)
    (case l7 => k_is)
    (case c7 => k_is)
    (case k7 => k_is)
    (case a8 => k_is)
    (case l8 => k_is)
    (case c8 => k_is)
    (case k8 => k_is)
    (case a9 => k_is)
    (case l9 => k_is)
    (case c9 => k_is)
    (case k9 => k_is)
    (case a15 => k_is)
    (case l15 => k_is)
    (case c15 => k_is)
    (case k15 => k_is)
    (case a16 => k_is)
    (case l16 => k_is)
    (case c16 => k_is)
    (case k16 => k_is)
    (case a32 => k_is)
    (case l32 => k_is)
    (case c32 => k_is)
    (case k32 => k_is)
    (case a33 => k_is)
    (case l33 => k_is)
    (case c33 => k_is)
    (case k33 => k_is)
    (case a10 => k_is)
    (case l10 => k_is)
    (case c10 => k_is)
    (case k10 => k_is)
    (case a11 => k_is)
    (case l11 => k_is)
    (case c11 => k_is)
    (case k11 => k_is)
    (case a12 => k_is)
    (case i12 => k_is)
    (case l12 => k_is)
    (case c12 => k_is)
    (case k12 => k_is)
    (case l14 => k_is)
    (case c14 => k_is)
    (case k14 => k_is)
    (case a13 => k_is)
    (case i13 => k_is)
    (case l13 => k_is)
    (case c13 => k_is)
    (case k13 => k_is)
    (case vL => k_is)
    (case vM => k_is)
    (case vN => k_is)
    (case z_len => k_is)
    (case z_max => k_is)
    (case z_min => k_is)
    (case z_abs => k_is)
    (case z_int => k_is)
    (case z_range => k_is)
    (case z_all => k_is)
    (case z_set => k_is)
    (case z_tuple => k_is)
    (case z_list => k_is)
    (case z_isinstance => k_is)
    (case z_repr => k_is)
    (case z_ValueError => k_is)
    (case z_enumerate => k_is)
    (case pg => k_is)
    (case hd => k_is)
    (case po => k_is)
    (case sa => k_is)
    (case mk => k_is)
    (case kc => k_is)
    (case nW => k_is)
    (case xC => k_is)
    (case ne => k_is)
    (case pget => k_is)
    (case ptk => k_is)
    (case ha => k_is)
    (case hn => k_is)
    (case htk => k_is)
    (case hm => k_is)
    (case ki => first | rfl | k_is)
    (case xW => k_is)
    (case saW => k_is)
    (case exW => k_is)
    (case tyW => k_is)
    (case kpW => k_is)
    (case nvW => k_is)
    (case gaW => k_is)
    (case ggW => k_is)
    (case hdW => k_is)
    (case haW => k_is)
    (case hmW => k_is)
    (case wSW => k_is)
    (case vSW => k_is)
    (case qcW => k_is)
    (case aiW => k_is)
    (case uW1 => k_is)
    (case neW1 => decide)
    (case uW2 => k_is)
    (case neW2 => decide)
    (case uW3 => k_is)
    (case neW3 => decide)
    (case uW4 => k_is)
    (case neW4 => decide)
    (case uW5 => k_is)
    (case neW5 => decide)
    (case uW6 => k_is)
    (case neW6 => decide)
    (case uW7 => k_is)
    (case neW7 => decide)
    (case uWN => k_is)
    (case neWN => decide)
    (case xN => k_is)
    (case saN => k_is)
    (case exN => k_is)
    (case tyN => k_is)
    (case kpN => k_is)
    (case nvN => k_is)
    (case gaN => k_is)
    (case ggN => k_is)
    (case hdN => k_is)
    (case haN => k_is)
    (case hmN => k_is)
    (case wSN => k_is)
    (case vSN => k_is)
    (case qcN => k_is)
    (case uN1 => k_is)
    (case neN1 => decide)
    (case uN2 => k_is)
    (case neN2 => decide)
    (case uN3 => k_is)
    (case neN3 => decide)
    (case uN4 => k_is)
    (case neN4 => decide)
    (case uN5 => k_is)
    (case neN5 => decide)
    (case uN6 => k_is)
    (case neN6 => decide)
    (case uN7 => k_is)
    (case neN7 => decide)
    (case uNW => k_is)
    (case neNW => decide)
    (case wB => k_is)
    (case wD => k_is)
    (case wT => k_is)
    (case q1 => k_is)
    (case y1 => k_is)
    (case q2 => k_is)
    (case y2 => k_is)
    (case q3 => k_is)
    (case y3 => k_is)
    (case q4 => k_is)
    (case y4 => k_is)
    (case q5 => k_is)
    (case y5 => k_is)
    (case q6 => k_is)
    (case y6 => k_is)
    (case q7 => k_is)
    (case y7 => k_is)
    (case a20 => k_is)
    (case t20 => k_is)
    (case l20 => k_is)
    (case c20 => k_is)
    (case k20 => k_is)
