import PyProof.Rows.All
import Wide.All
import OpenK.AllK
import Wide.FinOn
import PySem.Challenge.RW_wordhulls_k41_texts_counted
import HandS.ForMost
import HandS.Exc
import HandS.TryOnly
import HandS.ExcOwn
import HandS.WordsExc
import HandS.OwnEq
import HandS.Property
import HandS.MakeKw
import HandS.IsInst
import HandS.SetKeys
import HandS.ExcInit
import HandS.Wide
import HandS.Walk
import HandS.Steps
import PyProof.InstNe
import PyProof.ReprLen
import HandS.ExcField
import HandS.ExcIs
import HandS.HotCalls
import HandS.MakeKwOnly
import HandS.RaiseMore
import HandS.Dict
import HandS.Style
import HandS.Text
import HandS.Strs
import HandS.More
import HandS.TupSets
import HandS.Comp
import HandS.Sort
import HandS.Iter
import HandS.TupLe
import HandS.List
import PyProof.StrBlock2
import PyProof.TypeEq
import HandS.SetFor
import PyProof.StrWalks
import HandS.Gcd
import HandS.SortInts
import HandS.RevRange
import HandS.Deep
import HandS.StrMore
import HandS.DictSub
import PyProof.Rows.SortStr
import PyProof.Rows.StrMeet
import PyProof.Rows.ReprShort
set_option Elab.async false
set_option linter.all false
set_option maxRecDepth 100000
namespace WH
open PySem PySem.Spec PyProof.Rows L2
/-! a power of an int of less than a hundred thousand bits -/
def CPowW (i j : Int) : Prop := 0 ≤ j ∧ j ≤ 100 ∧ i.natAbs.log2 < 1000000
theorem CPowW.ok {i j : Int} (h : CPowW i j) : (Builtin.Int.intBits i : Int) * j ≤ 2 ^ 27 := by
  obtain ⟨h1, h2, h3⟩ := h
  have b : Builtin.Int.intBits i ≤ i.natAbs.log2 + 1 := by
    unfold Builtin.Int.intBits
    split <;> omega
  have e : (2 : Int) ^ 27 = 134217728 := by decide
  rw [e]
  have b2 : (Builtin.Int.intBits i : Int) ≤ 1000000 := by omega
  have := Int.mul_le_mul b2 h2 h1 (by decide)
  omega
theorem op_powW {X : Cx} : OpR X (binaryOp .Pow) (rI CPowW fun i j => .int (i ^ j.toNat)) := opI fun _ _ _ _ _ _ _ hc q => pow_int hc.1 hc.ok q
theorem log2_small {i : Int} {n : Nat} (h0 : 0 ≤ i) (h : i < 2 ^ n) (hn : n ≤ 1000000) (hp : 0 < n) : i.natAbs.log2 < 1000000 := by
  have : i.natAbs < 2 ^ n := by
    have e : ((2 ^ n : Nat) : Int) = (2 : Int) ^ n := by simp
    omega
  exact Nat.lt_of_lt_of_le (PySem.Flt.log2_lt_of hp this) hn
end WH
namespace WH
open PySem PySem.Spec PyProof.Rows L2
abbrev Sl := List (Option V)
theorem same_upd {H : Hp} {p : Addr} {o : HO} (h : H p = none) : Same H (upd H p o) := fun b x e => by
  rw [upd_ne (ne_of_none e h)]
  exact e
theorem same_set {H H1 : Hp} {p : Addr} {o : HO} (s : Same H H1) (h : H p = none) : Same H (upd H1 p o) := fun b x e => by
  rw [upd_ne (ne_of_none e h)]
  exact s b x e
/-- what a comprehension gives: f i (none: left out) for the turns ahead of i -/
def fmr (f : Nat → Option V) (i : Nat) : List V := (List.range i).filterMap f
theorem fmr_succ (f : Nat → Option V) (i : Nat) : fmr f (i + 1) = fmr f i ++ (f i).toList := by
  unfold fmr
  rw [List.range_succ, List.filterMap_append]
  cases h : f i <;> simp [h]
theorem fmr_len (f : Nat → Option V) (i : Nat) : (fmr f i).length ≤ i := by
  unfold fmr
  exact Nat.le_trans (List.length_filterMap_le _ _) (by rw [List.length_range]; exact Nat.le_refl _)
/-- a comprehension whose turns change nothing that stood -/
theorem lc_fm {J : It} {n : Nat} {G : Hp → Prop} {Y : Nat → Hp → V → Hp → Prop} (w : Walk J n G Y) {g : TG} {tt : TT} {te : TE} {vs : List Nat} {σ : Sl} {H1 : Hp} {D : Addr} {Qd : Hp → Prop}
    (f : Nat → Option V) (hn : n < sizeLine) (hD : H1 D = none) (hG : ∀ H, Same H1 H → G H)
    (hs : ∀ i x H H' (N : Option V → Hp → Prop), i < n → Same H1 H → Y i H x H' → (∀ H4, Same H H4 → N (f i) H4) → g x (wipe σ vs) H' fun σ2 H2 => wipe σ2 vs = wipe σ vs ∧ tt σ2 H2 fun b H3 =>
      if b = true then te σ2 H3 fun y H4 => N (some y) H4 else N none H3)
    (hd : ∀ H, Same H1 H → H D = some (.lst (fmr f n)) → Qd H) :
    ∃ W : Nat → Nat → Hp → Prop, (∃ m, W 0 m (upd H1 D (.lst []))) ∧ ∀ i m H, W i m H →
      (J.stop i H ∧ Qd H) ∨ (J.go i H ∧ ∃ Nx : Hp → Prop, (∀ H', Nx H' → ∃ m', m' < m ∧ W (i + 1) m' H') ∧ ∀ x H', J.yld i H x H' → g x (wipe σ vs) H' fun σ2 H2 => wipe σ2 vs = wipe σ vs ∧ tt σ2 H2 fun b H3 =>
        if b = true then te σ2 H3 fun y H4 => ∃ acc, H4 D = some (.lst acc) ∧ acc.length < sizeLine ∧ Nx (upd H4 D (.lst (acc ++ [y]))) else Nx H3) := by
  refine lc_it w (fun i H => Same H1 H ∧ H D = some (.lst (fmr f i))) ⟨same_upd hD, upd_same⟩ (fun i H _ p => hG H p.1) ?_ (fun H p => hd H p.1 p.2)
  rintro i x H H' hi ⟨s, hd'⟩ hy
  refine hs i x H H' (fun o H4 => match o with
    | some y => ∃ acc, H4 D = some (.lst acc) ∧ acc.length < sizeLine ∧ (Same H1 (upd H4 D (.lst (acc ++ [y]))) ∧ (upd H4 D (.lst (acc ++ [y]))) D = some (.lst (fmr f (i + 1))))
    | none => Same H1 H4 ∧ H4 D = some (.lst (fmr f (i + 1)))) hi s hy fun H4 s4 => ?_
  rw [fmr_succ]
  cases f i with
  | none => exact ⟨s.trans s4, by rw [s4 _ _ hd']; simp⟩
  | some y => exact ⟨_, s4 _ _ hd', Nat.lt_of_le_of_lt (fmr_len f i) (by omega), same_set (s.trans s4) hD, upd_same⟩
/-- all turns keep: the list by a map -/
theorem fmr_map (f : Nat → V) (n : Nat) : fmr (fun i => some (f i)) n = (List.range n).map f := by
  unfold fmr
  rw [← List.filterMap_eq_map]
  rfl
theorem range_map_getD (xs : List V) (F : V → V) : (List.range xs.length).map (fun i => F (xs.getD i .non)) = xs.map F := by
  apply List.ext_getElem
  · simp
  · intro i h1 h2
    simp at h1 h2
    simp [List.getD, h2]
theorem fmr_list (xs : List V) (F : V → Option V) : fmr (fun i => F (xs.getD i .non)) xs.length = xs.filterMap F := by
  unfold fmr
  have : (List.range xs.length).map (fun i => xs.getD i .non) = xs := by
    have := range_map_getD xs (fun v => v)
    simpa using this
  calc (List.range xs.length).filterMap (fun i => F (xs.getD i .non)) = ((List.range xs.length).map (fun i => xs.getD i .non)).filterMap F := by rw [List.filterMap_map]; rfl
    _ = xs.filterMap F := by rw [this]
theorem yesT {σ : Sl} {H : Hp} {A B : Hp → Prop} (h : A H) : tYes σ H (fun b H3 => if b = true then A H3 else B H3) := by
  show (if true = true then A H else B H)
  rw [if_pos rfl]
  exact h
/-- between two statements: what the first one leaves -/
theorem seq_mid {t1 t2 : TS} {D : Ends} {σ : Sl} {H : Hp} (R : Sl → Hp → Prop) (h1 : ∀ N : Sl → Hp → Prop, (∀ σ' H', R σ' H' → N σ' H') → t1 { D with nx := N } σ H) (h2 : ∀ σ' H', R σ' H' → t2 D σ' H') : tSeq t1 t2 D σ H := h1 _ h2
/-! ### the letters -/
def LET : Str := "abcdefghijklmnopqrstuvwxyz"
def isL (z : Str) : Bool := z.cps.toList.all fun c => decide (c ∈ LET.cps.toList)
def isW (z : Str) : Bool := decide (1 ≤ z.length) && decide (z.length ≤ 8) && isL z
theorem getD_at {z : Str} {i c : Nat} (hi : i < z.cps.size) (hc : z.cps[i]? = some c) : z.cps.getD i 0 = c := by
  simp [Array.getD, hi, Array.getElem?_eq_getElem hi] at hc ⊢
  exact hc
theorem fmr_isL (z : Str) : (fmr (fun i => some (.bl (decide (z.cps.getD i 0 ∈ LET.cps.toList)))) z.cps.size) = (z.cps.toList.map fun c => decide (c ∈ LET.cps.toList)).map V.bl := by
  rw [fmr_map]
  apply List.ext_getElem
  · simp
  · intro i h1 h2
    simp at h1 h2
    simp [Array.getD, h2]
theorem all_isL (z : Str) : (z.cps.toList.map fun c => decide (c ∈ LET.cps.toList)).all id = isL z := by
  unfold isL
  rw [List.all_map]
  rfl
end WH
set_option maxHeartbeats 2000000
namespace WH
open PySem PySem.Spec PyProof.Rows L2 PySem.W PySem.Calls
/-- what the written part says of a class with an own == and without an own != -/
structure EqCls (K : PySem.W.Frag) (C f : Addr) : Prop where
  cls : ∃ nm q N bs sn sub ab col dd k0 k1 k2 k3 k5, K.lookup C = some (excClassObj nm q C N bs [.type "object"] true sn sub ab col dd k0 k1 k2 k3 k5 "object.__new__")
  eq : findIn K (.ref C) "__eq__" = some (some (.ref f))
  ne : findIn K (.ref C) "__ne__" = some (some (.builtin "object.__ne__"))
  fn : isFn K (.ref f) = true
section
variable {prog : Program} {w : World} {A : Around} {E : Value → Shared → Prop} {K : PySem.W.Frag} {C x f L : Addr} {b tb : Value} {h₀ : Heap} {s : Shared} {m : Str → Option Value} {ox : Obj} {od : Option Obj}
theorem ifBoundB_K {M : Model} {name : Str} {id : String} {args : List Value} {Q : Option Value → Shared → Prop} (X : K.In s.heap) (I : InstAt s.heap x ox C od) (hs : findIn K (.ref C) name = some (some (.builtin id))) {B : String} (S : Slot B name id)
    (h : wpAny M A (call (.builtin id) (.ref x :: args)) (fun v => Q (some v)) E s) : wpAny M A (callSpecialIfBound? (.ref x) name args) Q E s := by
  simp only [callSpecialIfBound?, bindSpecialIfBound?]
  refine wpAny_holding (wpAny_bind (wpAny_bind (wpAny_bind (I.type.here ((looks_findIn X hs).here ?_)))))
  simp only [S.bind]
  refine wpAny_bind (wpAny_askSetting (wpAny_ite ?_))
  have fin : wpAny M A (call (.builtin id) ([.ref x] ++ args) >>= fun v => pure (some v)) Q E s := wpAny_bind (wpAny_mono h (fun v s' h' => wpAny_pure h') fun _ _ h' => h')
  split
  · exact wpAny_bind (wpAny_pure (wpAny_pure fin))
  · exact wpAny_tryCatch (wpAny_bind (wpAny_pure (wpAny_pure fin)))
theorem objNe_K {Q : Fin → Shared → Prop} (X : K.In s.heap) (I : InstAt s.heap x ox C od) (T : EqCls K C f) (hu : A.units < cLine)
    (h : wpAny (model prog w) A (call (.ref f) [.ref x, b]) (fun v s' => ∃ r, v = .bool r ∧ Q (.done (.ret (.bool (!r)))) s') E s) :
    wpAny (model prog w) A (Builtin.«object.__ne__» ⟨[.ref x, b], []⟩) Q E s := by
  unfold Builtin.«object.__ne__»
  repeat (first
    | with_reducible refine wpAny_cRoomFor hu ?_
    | (refine wpAny_bind (m := callSpecialIfBound? (.ref x) (Str.ofString "__eq__") [b])
        (ifBound_K X I T.eq T.fn (wpAny_mono h (fun r s' hr => by
          obtain ⟨r, rfl, hq⟩ := hr
          repeat (first | exact hq | exact wpAny_pure hq | exact wpAny_truthy_bool hq | (refine wpAny_bind (m := truthy (.bool _)) (wpAny_truthy_bool ?_)) | wp_step)) fun _ _ e => e)))
    | wp_step)
theorem ne_K {Q : Value → Shared → Prop} (hu : A.units + 1 < cLine) (X : K.In s.heap) (I : InstAt s.heap x ox C od) (hb : Looks (model prog w) s.heap (typeOf b) tb) (hn : notFirst K C tb = true) (T : EqCls K C f)
    (h : wpAny (model prog w) A.in1 (call (.ref f) [.ref x, b]) (fun v s' => ∃ r, v = .bool r ∧ Q (.bool (!r)) s') E s) : wpAny (model prog w) A (richCompare .NotEq (.ref x) b) Q E s := by
  obtain ⟨nm, q, N, bs, sn, sub, ab, col, dd, k0, k1, k2, k3, k5, hC⟩ := T.cls
  have one : wpAny (model prog w) A (tryCompare (.ref x) "__ne__" b) (fun r s' => ∃ v, r = some v ∧ Q v s') E s := by
    unfold tryCompare
    refine wpAny_bind (ifBoundB_K X I T.ne F.cmp_object.ne (wpAny_call (codeAny_call_builtin F.cmp_object.ne.plain F.cmpEntry_ne
      (wpAny_check_slot_inst F.cmpKind_ne F.cmpSplit_ne (F.cmpArgs_ne _ _) F.cmp_object.hasObject I.at_ I.cls (X _ _ hC)
        (objNe_K (A := A.in1) X I T hu (wpAny_mono h (fun v s' hv => ?_) fun _ _ e => e))))))
    obtain ⟨r, rfl, hq⟩ := hv
    first | exact ⟨r, rfl, wpAny_pure ⟨_, rfl, hq⟩⟩ | exact ⟨r, rfl, wpAny_pure (wpAny_pure ⟨_, rfl, hq⟩)⟩ 
  unfold richCompare
  simp only [oneThing_ref]
  refine wpAny_holding (wpAny_bind (wpAny_cRoomFor (Nat.lt_of_succ_lt hu) ?_))
  refine wpAny_bind (I.type.here (wpAny_bind (hb.here ?_)))
  split
  · rename_i q
    have e : subIn K tb (.ref C) = some false := by
      rcases Bool.or_eq_true_iff.mp hn with e | e
      · rw [beq_iff_eq.mp e] at q; simp at q
      · exact beq_iff_eq.mp e
    refine wpAny_bind ((looks_subIn X e).here ?_)
    simp only [Bool.false_eq_true, if_false]
    refine wpAny_bind (wpAny_mono one (fun r s' z => ?_) fun _ _ e => e)
    obtain ⟨v, rfl, hq⟩ := z
    exact wpAny_pure hq
  · refine wpAny_bind (wpAny_pure ?_)
    simp only [Bool.false_eq_true, if_false]
    refine wpAny_bind (wpAny_mono one (fun r s' z => ?_) fun _ _ e => e)
    obtain ⟨v, rfl, hq⟩ := z
    exact wpAny_pure hq
end
/-! own == and != with either answer, by the promise of __eq__ -/
def rOwn (K : PySem.W.Frag) (C : Addr) (sp : Sp) (E : XK) (neg : Bool) : R2 := fun x y H Q => ∃ a dx fs t, x = .ref a ∧ H a = some (.ins C dx fs) ∧ TyX K H y t ∧ notFirst K C t = true ∧
  sp [x, y] H (fun v H' => ∃ r, v = .bl r ∧ Q (.bl (if neg = true then !r else r)) H') E
section
variable {X : Cx} {n : Nat} {CX : CXT} {C f : Addr} {fd : FuncData} {ps : List Str} {sp : Sp} {E : XK}
theorem own_call (F : FnOk X.prog X.w X.K X.mg X.base CX n f fd ps sp) (hb : Binds X.K fd ps []) (hx : Passes CX X E) {A : Around} (sb : Sub X n A) {pins : List (Addr × Obj)} {σ : Sl} {H : Hp} {s : Shared} {x y : V} {u v : Value} {Q : VK}
    (I : Inv X pins σ H s) (rx : RelV x u) (ry : RelV y v) (h : sp [x, y] H Q E) : wpAny (model X.prog X.w) A (PySem.call (.ref f) [u, v]) (EP X pins σ Q) X.xe s := by
  have e0 : Env0 X.prog X.w X.K X.mg X.base A X.stack s H := by
    have e := I.env0
    exact ⟨by rw [sb.fr]; exact e.frames, e.mod, e.bs, e.bsz, e.funs, e.frf, e.hok, e.bare⟩
  have hl := F.len _ _ _ _ h
  have r2 : Vals [x, y] [u, v] := .cons rx (.cons ry .nil)
  refine wpAny_call (codeAny_mono (F.run A X.stack s H ⟨[u, v], []⟩ [u, v] [x, y] _ E sb.room e0 (by
    have := hb s [u, v] I.kIn (by simpa using hl)
    simpa using this) r2 h) fun r s' hq => ?_)
  cases r with
  | error e => exact hx pins σ H s e s' I hq
  | ok fl =>
    cases fl with
    | ret w => exact I.after hq
    | next => exact False.elim hq
    | brk => exact False.elim hq
    | cont => exact False.elim hq
theorem op_eqOwn (T : EqCls X.K C f) (F : FnOk X.prog X.w X.K X.mg X.base CX n f fd ps sp) (hb : Binds X.K fd ps []) (hx : Passes CX X E) (hr : Room n X.A) : OpR X (compareOp .Eq) (rOwn X.K C sp E false) := by
  intro pins s σ H x y v u Q I rx ry hq
  obtain ⟨a, dx, fs, t, rfl, ha, ty, hn, q⟩ := hq
  cases rx
  obtain ⟨mA, J, _⟩ := ins_get I.hok ha
  obtain ⟨od, J, _⟩ := J.look
  obtain ⟨m, hF⟩ := I.fr
  obtain ⟨Pk, kx, hp, _⟩ := kit_of I ry ty
  show wpAny (model X.prog X.w) X.A (richCompare .Eq _ u) (EP X pins σ Q) X.xe s
  refine PySem.W.cmp_K (op := .Eq) (tb := t) hr.units0 hF I.ok.mod.kin J (kx.ty _ _ I.kIn hp) hn T.eq T.fn ?_
  refine wpAny_mono (own_call (x := .ref a) F hb hx ⟨hr, rfl⟩ I (show RelV (.ref a) (.ref a) from rfl) ry q) (fun r s' z => ?_) fun _ _ x => x
  obtain ⟨z, H', I', rz, b, rfl, ez⟩ := z
  cases rz
  exact ⟨.bl b, H', I', rfl, ez⟩
theorem op_neOwn (T : EqCls X.K C f) (F : FnOk X.prog X.w X.K X.mg X.base CX n f fd ps sp) (hb : Binds X.K fd ps []) (hx : Passes CX X E) (hr : Room (n + 1) X.A) : OpR X (compareOp .NotEq) (rOwn X.K C sp E true) := by
  intro pins s σ H x y v u Q I rx ry hq
  obtain ⟨a, dx, fs, t, rfl, ha, ty, hn, q⟩ := hq
  cases rx
  obtain ⟨mA, J, _⟩ := ins_get I.hok ha
  obtain ⟨od, J, _⟩ := J.look
  obtain ⟨Pk, kx, hp, _⟩ := kit_of I ry ty
  show wpAny (model X.prog X.w) X.A (richCompare .NotEq _ u) (EP X pins σ Q) X.xe s
  refine ne_K (hu_of (k := n + 1) hr) I.kIn J (kx.ty _ _ I.kIn hp) hn T ?_
  refine wpAny_mono (own_call (x := .ref a) F hb hx (Sub.in1 ⟨hr, rfl⟩) I (show RelV (.ref a) (.ref a) from rfl) ry q) (fun r s' z => ?_) fun _ _ x => x
  obtain ⟨z, H', I', rz, b, rfl, ez⟩ := z
  cases rz
  exact ⟨b, rfl, .bl (!b), H', I', rfl, ez⟩
end
end WH
namespace WH
open PySem PySem.Spec PyProof.Rows L2
/-! texts in lists and tuples, as data -/
def dStrs (ws : List Str) : List PyData := ws.map PyData.str
theorem eqvAll_strs : ∀ a b : List Str, PyData.eqvAll (dStrs a) (dStrs b) = decide (a = b)
  | [], [] => by simp [dStrs, PyData.eqvAll]
  | [], _ :: _ => by simp [dStrs, PyData.eqvAll]
  | _ :: _, [] => by simp [dStrs, PyData.eqvAll]
  | x :: a, y :: b => by
    have ih := eqvAll_strs a b
    unfold dStrs at ih ⊢
    rw [List.map_cons, List.map_cons]
    simp only [PyData.eqvAll, PyData.eqv, ih]
    by_cases h : x = y <;> by_cases h2 : a = b <;> simp [h, h2]
def SOk (a : List Str) : Prop := ∀ x ∈ a, PyData.strOk x = true
theorem canLay_strs : ∀ a : List Str, SOk a → PyData.canLayAll0 (dStrs a) = true
  | [], _ => by simp [dStrs, PyData.canLayAll0]
  | x :: a, h => by
    have ih := canLay_strs a fun y hy => h y (List.mem_cons_of_mem _ hy)
    unfold dStrs at ih ⊢
    rw [List.map_cons]
    simp only [PyData.canLayAll0, PyData.canLay0, ih, h x List.mem_cons_self, Bool.and_self]
theorem depth_strs : ∀ a : List Str, PyData.depthAll (dStrs a) ≤ 1
  | [] => by simp [dStrs, PyData.depthAll]
  | x :: a => by
    have ih := depth_strs a
    unfold dStrs at ih ⊢
    rw [List.map_cons]
    simp only [PyData.depthAll, PyData.depth]
    omega
theorem dpAll_strs {K : PySem.W.Frag} {H : Hp} : ∀ a : List Str, DpAll K H (a.map V.str) (dStrs a)
  | [] => .nil
  | x :: a => .cons (.str x) (dpAll_strs a)
theorem dp_lst {K : PySem.W.Frag} {H : Hp} {a : Addr} {ws : List Str} (h : SqL K H a (ws.map V.str)) : Dp K H (.ref a) (.list (dStrs ws)) := .lst h (dpAll_strs ws)
theorem dp_tup {K : PySem.W.Frag} {H : Hp} {a : Addr} {ws : List Str} (h : SqT K H a (ws.map V.str)) : Dp K H (.ref a) (.tuple (dStrs ws)) := .tup h (dpAll_strs ws)
theorem sh_lst {ws : List Str} (h : SOk ws) : SeqAt.shaped (.list (dStrs ws)) = true := by
  unfold SeqAt.shaped
  have := depth_strs ws
  simp only [PyData.canLay0, canLay_strs ws h, PyData.depth, Bool.true_and]
  exact decide_eq_true (by omega)
theorem sh_tup {ws : List Str} (h : SOk ws) : SeqAt.shaped (.tuple (dStrs ws)) = true := by
  unfold SeqAt.shaped
  have := depth_strs ws
  simp only [PyData.canLay0, canLay_strs ws h, PyData.depth, Bool.true_and]
  exact decide_eq_true (by omega)
theorem eqv_lst (a b : List Str) : PyData.eqv (.list (dStrs a)) (.list (dStrs b)) = decide (a = b) := by
  simp only [PyData.eqv]
  exact eqvAll_strs a b
theorem eqv_tup (a b : List Str) : PyData.eqv (.tuple (dStrs a)) (.tuple (dStrs b)) = decide (a = b) := by
  simp only [PyData.eqv]
  exact eqvAll_strs a b
theorem let_small : ∀ c ∈ LET.cps.toList, c < 123 := by decide +kernel
theorem sok_isL {x : Str} (h : isL x = true) : PyData.strOk x = true := by
  unfold PyData.strOk
  unfold isL at h
  rw [← Array.all_toList]
  rw [List.all_eq_true] at h ⊢
  intro c hc
  have h1 := let_small c (of_decide_eq_true (h c hc))
  exact decide_eq_true (by omega)
theorem sok_isW {x : Str} (h : isW x = true) : PyData.strOk x = true := by
  unfold isW at h
  simp only [Bool.and_eq_true] at h
  exact sok_isL h.2
/-! lists of lists of texts -/
def dLol (l : List (List Str)) : List PyData := l.map fun ws => PyData.list (dStrs ws)
theorem eqvAll_lol : ∀ a b : List (List Str), PyData.eqvAll (dLol a) (dLol b) = decide (a = b)
  | [], [] => by simp [dLol, PyData.eqvAll]
  | [], _ :: _ => by simp [dLol, PyData.eqvAll]
  | _ :: _, [] => by simp [dLol, PyData.eqvAll]
  | x :: a, y :: b => by
    have ih := eqvAll_lol a b
    unfold dLol at ih ⊢
    rw [List.map_cons, List.map_cons]
    simp only [PyData.eqvAll, eqv_lst, ih]
    by_cases h : x = y <;> by_cases h2 : a = b <;> simp [h, h2]
theorem canLay_lol : ∀ a : List (List Str), (∀ x ∈ a, SOk x) → PyData.canLayAll0 (dLol a) = true
  | [], _ => by simp [dLol, PyData.canLayAll0]
  | x :: a, h => by
    have ih := canLay_lol a fun y hy => h y (List.mem_cons_of_mem _ hy)
    unfold dLol at ih ⊢
    rw [List.map_cons]
    simp only [PyData.canLayAll0, PyData.canLay0, canLay_strs x (h x List.mem_cons_self), ih, Bool.and_self]
theorem depth_lol : ∀ a : List (List Str), PyData.depthAll (dLol a) ≤ 3
  | [] => by simp [dLol, PyData.depthAll]
  | x :: a => by
    have ih := depth_lol a
    have h2 := depth_strs x
    unfold dLol at ih ⊢
    rw [List.map_cons]
    simp only [PyData.depthAll, PyData.depth]
    omega
theorem sh_lol {l : List (List Str)} (h : ∀ x ∈ l, SOk x) : SeqAt.shaped (.list (dLol l)) = true := by
  unfold SeqAt.shaped
  have := depth_lol l
  simp only [PyData.canLay0, canLay_lol l h, PyData.depth, Bool.true_and]
  exact decide_eq_true (by omega)
theorem eqv_lol (a b : List (List Str)) : PyData.eqv (.list (dLol a)) (.list (dLol b)) = decide (a = b) := by
  simp only [PyData.eqv]
  exact eqvAll_lol a b
/-! in -/
theorem inV_strs (x : Str) (ws : List Str) : inV (.str x) (ws.map V.str) = decide (x ∈ ws) := by
  unfold inV
  rw [List.any_map]
  induction ws with
  | nil => simp
  | cons y r ih =>
    rw [List.any_cons, ih]
    have e : ((fun y => eqV y (V.str x)) ∘ V.str) y = decide (y = x) := by
      show eqV (V.str y) (V.str x) = _
      simp only [eqV]
      by_cases h : y = x <;> simp [h]
    rw [e]
    by_cases h : y = x <;> by_cases h2 : x ∈ r <;> simp [h, h2, eq_comm]
    all_goals (first | exact fun z => h z.symm | skip)
theorem flat_strs (ws : List Str) : (ws.map V.str).all flatV = true := by
  rw [List.all_map, List.all_eq_true]
  intro x _
  rfl
def fSel (q : Str → Bool) : V → Option V
  | .str z => if q z = true then some (.str z) else none
  | _ => none
theorem fSel_yes {q : Str → Bool} {z : Str} (h : q z = true) : fSel q (.str z) = some (.str z) := if_pos h
theorem fSel_no {q : Str → Bool} {z : Str} (h : q z = false) : fSel q (.str z) = none := if_neg (by simp [h])
theorem fmap_filter (ws : List Str) (q : Str → Bool) : (ws.map V.str).filterMap (fSel q) = (ws.filter q).map V.str := by
  induction ws with
  | nil => rfl
  | cons y r ih =>
    rw [List.map_cons, List.filterMap_cons]
    by_cases h : q y = true
    · simp [h, ih, fSel]
    · simp [h, ih, fSel]
section
variable {X : Cx} {CX : CXT} {k : Nat} {f : Addr} {fd : FuncData} {ps ks : List Str} {sp : Sp} {E : XK} {x : Str} {p pos : Pos} {kws : List Keyword} {tk : TA} {g : List Value → List Value → List Value} {gV : List V → List V → List V}
/-- f(k = v, ..) -/
theorem pe_callK0 (F : FnOk X.prog X.w X.K X.mg X.base CX k f fd ps sp) (hr : Room k X.A) (hg : Gl X x) (hm : X.mg x = some (.ref f)) (hk : PySem.W.keepIn X.K (.ref f) = true) (hb : KBinds X.K fd ps ks g gV) (hx : Passes CX X E)
    (hkw : PK X kws tk) (hall : (backToKw pos (keywordEach kws X.env)).all (·.1.isSome) = true := by rfl) (hks : (backToKw pos (keywordEach kws X.env)).filterMap (·.1) = ks := by rfl)
    (hdb : (x == ("__debug__" : Str)) = false := by decide) 
    (hpl : ((backTo pos (starEach [] X.env)).any (·.1) || (backToKw pos (keywordEach kws X.env)).any (·.1.isNone)) = false := by rfl) :
    PE X (.Call (.Name x p) [] kws pos) (tCallK sp gV E tNil tk) := by
  refine ⟨fun pins s σ H Q I h => ?_⟩
  refine wpAny_Call_Name_kw (ld_glob I hg hm ?_ hdb)
  refine PySem.W.callWith_KW0 (h₀ := X.base) I.ok.mod.kin hk hall ?_ hpl
  refine thn (hkw.run pos pins s σ H _ I h) fun ws s2 ⟨zs, H2, I2, rz, q2⟩ => ⟨I2.kIn, ?_⟩
  rw [hks]
  exact run_fnk (us := []) (vs := []) F hr hb hx I2 .nil rz q2
end
/-- how keywords bind -/
theorem kbinds_of {K : PySem.W.Frag} {x qual : Str} {st : Stmt} {f : Addr} {fd : FuncData} {ps ks : List Str} (F : Fun K x qual st f fd) (g : List Value → List Value → List Value) (gV : List V → List V → List V)
    (hrel : ∀ {vs : List V} {us : List Value} {zs : List V} {ws : List Value}, Vals vs us → Vals zs ws → Vals (gV vs zs) (g us ws))
    (h : ∀ (kV doc pm : Value) (an : Option Addr) (cdv ct : Value) (us ws : List Value), (g us ws).length = ps.length → bindArgs (PySem.W.fnOf x qual (defArgs st) (defBody st) (defScope st) .none kV doc pm an cdv ct) ⟨us, ks.zip ws⟩ = pure (ps.zip (g us ws))) : KBinds K fd ps ks g gV := by
  obtain ⟨oc, od, kV, doc, pm, an, cdv, ct, osl, rfl, lk, hcd⟩ := F.ex
  exact ⟨fun s us ws _ hl => .of_eq (h kV doc pm an cdv ct us ws hl), hrel⟩
/-- C(k = v): how it binds behind the instance -/
theorem kbn_words {K : PySem.W.Frag} {x qual : Str} {st : Stmt} {f : Addr} {fd : FuncData} {ps ks : List Str} (F : Fun K x qual st f fd)
    (h : ∀ (kV doc pm : Value) (an : Option Addr) (cdv ct : Value) (us ws : List Value), us.length = 1 → ws.length = ks.length → bindArgs (PySem.W.fnOf x qual (defArgs st) (defBody st) (defScope st) .none kV doc pm an cdv ct) ⟨us, ks.zip ws⟩ = pure (ps.zip (us ++ ws))) :
    KBn K fd ps 1 ks (fun us ws => us ++ ws) (fun us ws => us ++ ws) := by
  obtain ⟨oc, od, kV, doc, pm, an, cdv, ct, osl, rfl, lk, hcd⟩ := F.ex
  exact ⟨fun s us ws _ l1 l2 => .of_eq (h kV doc pm an cdv ct us ws l1 l2), fun r1 r2 => r1.append r2⟩
/-- two keywords, the second one first -/
def gTurn {α : Type} : List α → List α → List α
  | [], [a, b] => [b, a]
  | _, _ => []
theorem gTurn_rel {vs : List V} {us : List Value} {zs : List V} {ws : List Value} (h1 : Vals vs us) (h2 : Vals zs ws) : Vals (gTurn vs zs) (gTurn us ws) := by
  cases h1 with
  | nil =>
    cases h2 with
    | nil => exact .nil
    | cons a h2 =>
      cases h2 with
      | nil => exact .nil
      | cons b h2 =>
        cases h2 with
        | nil => exact .cons b (.cons a .nil)
        | cons c h2 => exact .nil
  | cons a h1 =>
    exact .nil
/-! texts run together -/
def catS (ys : List Str) : Str := ⟨((ys.map fun y => y.cps.toList).flatten).toArray⟩
theorem catS_list (ys : List Str) : (catS ys).cps.toList = (ys.map fun y => y.cps.toList).flatten := rfl
theorem glue_fold (e : Array Nat) (he : e = #[]) : ∀ (ps : List Str) (a : Array Nat), (ps.foldl (fun acc p => acc ++ e ++ p.cps) a).toList = a.toList ++ (ps.map fun y => y.cps.toList).flatten
  | [], a => by simp
  | p :: ps, a => by
    rw [List.foldl_cons, glue_fold e he ps]
    subst he
    simp
theorem join_cat {sep : Str} (hs : sep.cps = #[]) (ys : List Str) : Txt.join sep ys = catS ys := by
  apply ext_toList
  rw [catS_list]
  unfold Txt.join Builtin.Str.glued
  show ((ys.drop 1).foldl (fun acc p => acc ++ sep.cps ++ p.cps) (ys.headD Str.empty).cps).toList = _
  rw [glue_fold _ hs]
  cases ys with
  | nil => rfl
  | cons y r => simp
theorem catS_len (ys : List Str) : (catS ys).length = (ys.map (·.length)).sum := by
  show (catS ys).cps.size = _
  rw [← Array.length_toList, catS_list, List.length_flatten, List.map_map]
  rfl
theorem sum_ones (us : List Str) (h : ∀ u ∈ us, ∃ c, u = ⟨#[c]⟩) : (us.map (·.length)).sum = us.length := by
  induction us with
  | nil => rfl
  | cons u r ih =>
    obtain ⟨c, hc⟩ := h u List.mem_cons_self
    rw [List.map_cons, List.sum_cons, ih fun v hv => h v (List.mem_cons_of_mem _ hv), hc, List.length_cons]
    show 1 + r.length = r.length + 1
    omega
/-! cuts of texts -/
theorem cut_hi (z : Str) {c : Int} (h : 0 ≤ c) : (cutS z none (some c)).cps.toList = z.cps.toList.take c.toNat := by
  have e : c = (c.toNat : Int) := by omega
  unfold cutS
  rw [e, HT.sIx_nat, HT.sIx_none]
  show (z.cps.toList.drop 0).take (min c.toNat z.length - 0) = _
  rw [List.drop_zero, Nat.sub_zero]
  have : z.length = z.cps.toList.length := by simp [Str.length]
  rw [this, ← List.take_eq_take_min]
  rfl
theorem cut_lo (z : Str) {c : Int} (h : 0 ≤ c) : (cutS z (some c) none).cps.toList = z.cps.toList.drop c.toNat := by
  have e : c = (c.toNat : Int) := by omega
  unfold cutS
  rw [e, HT.sIx_nat, HT.sIx_none]
  have hz : z.length = z.cps.toList.length := by simp [Str.length]
  show (z.cps.toList.drop (min c.toNat z.length)).take (z.length - min c.toNat z.length) = z.cps.toList.drop c.toNat
  by_cases hc : c.toNat ≤ z.length
  · rw [Nat.min_eq_left hc, hz, List.take_of_length_le (by rw [List.length_drop]; omega)]
  · rw [Nat.min_eq_right (by omega), hz, List.drop_of_length_le (Nat.le_refl _), List.drop_of_length_le (by omega)]
    simp
theorem len_list (z : Str) : z.length = z.cps.toList.length := by simp [Str.length]
theorem isL_iff {z : Str} : isL z = true ↔ ∀ c ∈ z.cps.toList, c ∈ LET.cps.toList := by
  unfold isL
  rw [List.all_eq_true]
  exact ⟨fun h c hc => of_decide_eq_true (h c hc), fun h c hc => decide_eq_true (h c hc)⟩
theorem isL_app {a b : Str} (h1 : isL a = true) (h2 : isL b = true) : isL (a ++ b) = true := by
  rw [isL_iff] at h1 h2 ⊢
  intro c hc
  rw [Str.cps_append, Array.toList_append] at hc
  rcases List.mem_append.mp hc with h | h
  · exact h1 c h
  · exact h2 c h
theorem isL_hi {z : Str} {c : Int} (h0 : 0 ≤ c) (h : isL z = true) : isL (cutS z none (some c)) = true := by
  rw [isL_iff] at h ⊢
  intro x hx
  rw [cut_hi z h0] at hx
  exact h x (List.mem_of_mem_take hx)
theorem isL_lo {z : Str} {c : Int} (h0 : 0 ≤ c) (h : isL z = true) : isL (cutS z (some c) none) = true := by
  rw [isL_iff] at h ⊢
  intro x hx
  rw [cut_lo z h0] at hx
  exact h x (List.mem_of_mem_drop hx)
theorem len_app (a b : Str) : (a ++ b).length = a.length + b.length := Str.length_append a b
theorem len_hi {z : Str} {c : Int} (h0 : 0 ≤ c) : (cutS z none (some c)).length = min c.toNat z.length := by
  rw [len_list, cut_hi z h0, List.length_take, ← len_list]
theorem len_lo {z : Str} {c : Int} (h0 : 0 ≤ c) : (cutS z (some c) none).length = z.length - c.toNat := by
  rw [len_list, cut_lo z h0, List.length_drop, ← len_list]
/-- an item of a written list of texts -/
theorem at_strs {ss : List Str} {e : Int} (h0 : 0 ≤ e) (h : e < (ss.length : Int)) : ∃ s, atI (ss.map V.str) e = some (.str s) ∧ s ∈ ss ∧ ss[e.toNat]? = some s := by
  have hl : e.toNat < ss.length := by omega
  refine ⟨ss[e.toNat], ?_, List.getElem_mem hl, List.getElem?_eq_getElem hl⟩
  have e1 : (e.toNat : Int) = e := by omega
  have := atI_nat (xs := ss.map V.str) (j := e.toNat) (v := .str ss[e.toNat]) (by simp [hl])
  rwa [e1] at this
end WH
namespace WH
open PySem PySem.Spec PyProof.Rows L2
/-- a comprehension (no test) whose elements are new lists -/
theorem lc_refs' {J : It} {n : Nat} {G : Hp → Prop} {Y : Nat → Hp → V → Hp → Prop} (w : Walk J n G Y) {i0 : Nat} {te : TE} {vs : List Nat} {σ : Sl} {H1 : Hp} {D : Addr} {Qd : Hp → Prop}
    (c : Nat → List V) (hn : n < sizeLine) (hD : H1 D = none) (hG : ∀ H, Same H1 H → G H) (hw : ∀ x, wipe ((wipe σ vs).set i0 (some x)) vs = wipe σ vs)
    (hs : ∀ i x H H' (N : V → Hp → Prop), i < n → Same H1 H → Y i H x H' → (∀ l H4, H l = none → Same H H4 → H4 l = some (.lst (c i)) → N (.ref l) H4) → te ((wipe σ vs).set i0 (some x)) H' N)
    (hd : ∀ (ls : List Addr) H, Same H1 H → H D = some (.lst (ls.map V.ref)) → ls.length = n → (∀ (j : Nat) (l : Addr), ls[j]? = some l → H l = some (.lst (c j))) → Qd H) :
    ∃ W : Nat → Nat → Hp → Prop, (∃ m, W 0 m (upd H1 D (.lst []))) ∧ ∀ i m H, W i m H →
      (J.stop i H ∧ Qd H) ∨ (J.go i H ∧ ∃ Nx : Hp → Prop, (∀ H', Nx H' → ∃ m', m' < m ∧ W (i + 1) m' H') ∧ ∀ x H', J.yld i H x H' → gName i0 x (wipe σ vs) H' fun σ2 H2 => wipe σ2 vs = wipe σ vs ∧ tYes σ2 H2 fun b H3 =>
        if b = true then te σ2 H3 fun y H4 => ∃ acc, H4 D = some (.lst acc) ∧ acc.length < sizeLine ∧ Nx (upd H4 D (.lst (acc ++ [y]))) else Nx H3) := by
  refine lc_it w (fun i H => ∃ ls : List Addr, ls.length = i ∧ H D = some (.lst (ls.map V.ref)) ∧ (∀ (j : Nat) (l : Addr), ls[j]? = some l → l ≠ D ∧ H l = some (.lst (c j))) ∧ Same H1 H) ⟨[], rfl, upd_same, fun j l h => by simp at h, same_upd hD⟩ (fun i H _ p => hG H p.choose_spec.2.2.2) ?_ ?_
  · rintro i x H H' hi ⟨ls, hl, h1, h2, s⟩ hy
    refine ⟨hw x, yesT ?_⟩
    refine hs i x H H' _ hi s hy fun l H4 nl s4 h4 => ?_
    have nlD : l ≠ D := by
      intro z
      subst z
      rw [h1] at nl
      cases nl
    refine ⟨ls.map V.ref, s4 _ _ h1, ?_, ls ++ [l], by simp [hl], ?_, fun j m hj => ?_, same_set (s.trans s4) hD⟩
    · rw [List.length_map]
      omega
    · rw [upd_same]
      simp
    · by_cases hji : j < ls.length
      · rw [List.getElem?_append_left hji] at hj
        obtain ⟨a1, a2⟩ := h2 j m hj
        exact ⟨a1, by rw [upd_ne a1]; exact s4 _ _ a2⟩
      · have hj2 : j = ls.length := by
          have := (List.getElem?_eq_some_iff.mp hj).1
          rw [List.length_append] at this
          simp at this
          omega
        subst hj2
        rw [List.getElem?_append_right (Nat.le_refl _)] at hj
        simp at hj
        subst hj
        rw [hl]
        exact ⟨nlD, by rw [upd_ne nlD]; exact h4⟩
  · rintro H ⟨ls, hl, h1, h2, s⟩
    exact hd ls H s h1 hl fun j l h => (h2 j l h).2
theorem dpAll_refs {K : PySem.W.Frag} {H : Hp} : ∀ (ls : List Addr) (wss : List (List Str)), ls.length = wss.length → (∀ (j : Nat) (l : Addr) (ws : List Str), ls[j]? = some l → wss[j]? = some ws → SqL K H l (ws.map V.str)) → DpAll K H (ls.map V.ref) (dLol wss)
  | [], [], _, _ => .nil
  | [], _ :: _, h, _ => by simp at h
  | _ :: _, [], h, _ => by simp at h
  | l :: ls, ws :: wss, h, q => .cons (dp_lst (q 0 l ws rfl rfl)) (dpAll_refs ls wss (by simpa using h) fun j l' ws' h1 h2 => q (j + 1) l' ws' (by simpa using h1) (by simpa using h2))
/-- [due] * 2 -/
theorem dp_two {K : PySem.W.Frag} {H : Hp} {a l : Addr} {ws : List Str} (h : SqL K H a [.ref l, .ref l]) (hl : SqL K H l (ws.map V.str)) : Dp K H (.ref a) (.list (dLol [ws, ws])) :=
  .lst h (.cons (dp_lst hl) (.cons (dp_lst hl) .nil))
theorem gTurn_two {α : Type} {us ws : List α} (h : (gTurn us ws).length = 2) : us = [] ∧ ∃ a b, ws = [a, b] := by
  match us, ws, h with
  | [], [a, b], _ => exact ⟨rfl, a, b, rfl⟩
/-- the same behind a plain assignment -/
theorem seq_midN {i : Nat} {v : V} {t1 t2 : TS} {D : Ends} {σ : Sl} {H : Hp} (R : Sl → Hp → Prop) (h1 : ∀ N : Sl → Hp → Prop, (∀ σ' H', R σ' H' → N σ' H') → t1 { D with nx := N } (σ.set i (some v)) H) (h2 : ∀ σ' H', R σ' H' → t2 D σ' H') : gName i v σ H (tSeq t1 t2 D) := h1 _ h2
end WH
namespace WH
open PySem PySem.Spec PyProof.Rows L2
/-! ### repr, where it is known that no repr runs around -/
def rRepr (K : PySem.W.Frag) : List V → Hp → VK → Prop := fun xs H Q => ∃ (a : Addr) (d : PyData), xs = [.ref a] ∧ Dp K H (.ref a) d ∧ d.showable = true ∧ d.hasDict = false ∧ d.depth ≤ 60 ∧ d.shown.length ≤ sizeLine ∧ Q (.str d.shown) H
theorem call_repr {X : Cx} (hG : X.A.guards = some []) (hu : X.A.units + 64 < cLine) : CallR X (.builtin "repr") (rRepr X.K) := by
  intro pins s σ H xs us Q I r h
  obtain ⟨a, d, rfl, hd, hs, hn, hp, hz, q⟩ := h
  obtain ⟨u, rfl, ru⟩ := vals1 r
  obtain rfl : u = Value.ref a := ru
  obtain ⟨as, rd⟩ := hd.reads I d (.ref a) (.ref a) rfl
  exact repr_of_reads' rd hs (PyData.noDict_hsm hn) hG (by omega) (fun _ _ e => e) (fun h' t k keep => ⟨.str d.shown, H, I.kept keep, ⟨_, rfl⟩, q⟩) hz
/-- a def that keeps its promise where no repr runs around -/
structure FnG (P : Program) (w : World) (K : PySem.W.Frag) (mg : Str → Option Value) (base : Heap) (CX : CXT) (k : Nat) (f : Addr) (fd : FuncData) (ps : List Str) (sp : Sp) : Prop where
  len : ∀ vs H Q E, sp vs H Q E → vs.length = ps.length
  run : ∀ (A : Around) (outer : List Env) (s : Shared) (H : Hp) (args : Args) (us : List Value) (vs : List V) (Q : VK) (E : XK), Room k A → A.guards = some [] → Env0 P w K mg base A outer s H → BindsTo s fd args (ps.zip us) → Vals vs us →
    sp vs H Q E → codeAny (model P w) A (.call (.ref f) args) (CR CX outer P w H s Q E) s
section
variable {P : Program} {w : World} {K : PySem.W.Frag} {mg : Str → Option Value} {base : Heap} {CX : CXT}
theorem Fun.okG {x qual : Str} {st : Stmt} {f : Addr} {fd : FuncData} {N ps : List Str} {k : Nat} {sp : Sp} (F : Fun K x qual st f fd) (S : FnScope N ps (defScope st)) (len : ∀ vs H Q E, sp vs H Q E → vs.length = ps.length)
    (hbody : ∀ (cdv : Value) (A : Around) (outer : List Env) (s : Shared) (H : Hp) (vs : List V) (Q : VK) (E : XK), Room k (A.deeper (envOfC qual (defScope st) s.heap.objs.size f cdv)) → (A.deeper (envOfC qual (defScope st) s.heap.objs.size f cdv)).guards = some [] → sp vs H Q E →
      ∃ t, PSs (cxOf CX0 P w K mg base N qual (defScope st) f cdv A outer s H E).nox (defBody st) t ∧ t { nx := fun _ H' => Q .non H', rt := Q } (start N vs) H) : FnG P w K mg base CX0 (k + 1) f fd ps sp := by
  obtain ⟨oc, od, kV, doc, pm, an, cdv, ct, osl, rfl, lk, hcd⟩ := F.ex
  refine ⟨len, fun A outer s H args us vs Q E room hG env0 bind rel want => ?_⟩
  have inK : K.In s.heap := env0.mod.kin.keeps fun b o z => (env0.bs b o z).1
  have noLim : s.heap.NoLimit := env0.mod.nolimit.keeps fun b o z => (env0.bs b o z).1
  have kinds : ∀ y ∈ ps.zip us, (defScope st).names.lookup y.1 = some .local ∨ ((defScope st).names.lookup y.1 = some .cell ∧ ((cellsFrom (s.heap.objs.size + 1) (defScope st).names []).lookup y.1).isSome = true) := by
    rintro ⟨x', v'⟩ hy
    exact (S.par x' (List.of_mem_zip hy).1).elim (fun z => .inl z) fun z => .inr ⟨z, PySem.W.cellsFrom_some _ _ _ (.inl z)⟩
  refine codeAny_call_function room.depth (inK _ _ lk) rfl S.co S.gen rfl (PySem.W.codeRec_of inK hcd) (bind _ _ _ _ ?_)
  refine wpAny_newFunctionEnv_cells S.kind kinds fun env' isEnv s2 made => ?_
  subst isEnv
  refine ⟨noLim.keeps made.toInCall.keep, codeAny_func ?_⟩
  obtain ⟨t, derived, reading⟩ := hbody cdv A outer s H vs Q E (room.deeper _) hG want
  have inv : Inv (cxOf CX0 P w K mg base N qual (defScope st) f cdv A outer s H E) [] (start N vs) H s2 := inv_start S room.hd env0 (len _ _ _ _ want) rel made
  refine wpAny_mono (derived.nox.run [] s2 (start N vs) H _ inv reading) (fun flow s3 out => ?_) fun _ _ z => z
  have back : ∀ {σ3 : Sl} {H3 : Hp} {v3 : V} {u3 : Value}, Inv (cxOf CX0 P w K mg base N qual (defScope st) f cdv A outer s H E) [] σ3 H3 s3 → RelV v3 u3 → Q v3 H3 → CE outer P w H s Q u3 s3 := fun J rv3 q3 => ⟨_, _, J.os, J.bare, J.base, J.hok, rv3, q3⟩
  match flow, out with
  | .ret u3, ⟨v3, σ3, H3, J, rv3, q3⟩ => exact back J rv3 q3
  | .next, ⟨σ3, H3, J, q3⟩ => exact back (v3 := V.non) (u3 := Value.none) J rfl q3
  | .brk, ⟨_, _, _, q3⟩ => exact q3.elim
  | .cont, ⟨_, _, _, q3⟩ => exact q3.elim
end
section
variable {X : Cx} {CX : CXT} {k : Nat} {f : Addr} {fd : FuncData} {ps : List Str} {sp : Sp} {E : XK} {x : Str} {p pos : Pos} {e : Expr} {es : List Expr} {t : TA}
/-- f(e, ..), f such a def -/
theorem pe_callG (F : FnG X.prog X.w X.K X.mg X.base CX k f fd ps sp) (hr : Room k X.A) (hG : X.A.guards = some []) (hg : Gl X x) (hm : X.mg x = some (.ref f)) (hk : PySem.W.keepIn X.K (.ref f) = true) (hb : Binds X.K fd ps []) (hx : Passes CX X E) (ha : PA X (e :: es) t)
    (hdb : (x == ("__debug__" : Str)) = false := by decide) (he : starEach (e :: es) X.env = (false, eval e X.env) :: starEach es X.env := by rfl) (hpl : (backTo pos (starEach es X.env)).any (·.1) = false := by rfl) : PE X (.Call (.Name x p) (e :: es) [] pos) (tCall sp [] E t) := by
  refine ⟨fun pins s σ H Q I h => wpAny_Call_Name_kw (ld_glob I hg hm ?_ hdb)⟩
  refine PySem.W.callWith_K (h₀ := X.base) I.ok.mod.kin hk (thn (ha.run pos pins s σ H _ I h) fun us s1 ⟨vs, H1, I1, r, q⟩ => ⟨I1.kIn, ?_⟩) he hpl
  have q0 : sp vs H1 Q E := by simpa using q
  have le : us.length = ps.length := by rw [← r.length]; exact F.len _ _ _ _ q0
  have bd : BindsTo s1 fd ⟨us, []⟩ (ps.zip us) := by simpa using hb s1 us I1.kIn (by simpa using le)
  refine wpAny_call (codeAny_mono (F.run X.A X.stack s1 H1 ⟨us, []⟩ us vs Q E hr hG I1.env0 bd r q0) fun res s2 out => ?_)
  match res, out with
  | .error _, out => exact hx pins σ H1 s1 _ s2 I1 out
  | .ok (.ret _), out => exact I1.after out
  | .ok .next, out => exact out.elim
  | .ok .brk, out => exact out.elim
  | .ok .cont, out => exact out.elim
end
/-! ### the law's call: no repr runs around it -/
section
variable {P : Program} {w : World} {K : PySem.W.Frag} {mg mb : Str → Option Value} {k : Nat} {fa a : Addr} {fd : FuncData} {x : Str} {sp : Sp} {s₁ : Shared} {vs : List Value} {ns : List Int}
/-- from a heap in which the script alone may be tracked -/
theorem law_from {H : Hp} (inK : K.In s₁.heap) (hmod : s₁.heap.Ns mainGlobals mg) (hblt : s₁.heap.Ns builtinsNs mb) (hall : ∀ x : Str, x ≠ "__name__" → mb x = bootBuiltins x) (hlim : s₁.heap.NoLimit) (gens : s₁.gens = #[])
    (ha : s₁.heap.get? a = some { cls := .type "list", data := .seq vs.toArray }) (room : Room k callerA) (F : ∀ base : Heap, K.In base → base.Ns mainGlobals mg → FnG P w K mg base CX0 k fa fd [x] sp)
    (hbind : ∀ (s : Shared) (u : Value), BindsTo s fd ⟨[u], []⟩ [(x, u)]) (only : Only H) (want : sp [.ref a] H (fun v _ => v = .bl true) fun _ _ _ => False) (hok : HOk P w H s₁.heap)
    (just : ∀ b, H b ≠ none → b = a) (free : H a ≠ none → K.lookup a = none) :
    codeAny (model P w) callerA (.call (.ref fa) ⟨[.ref a], []⟩) (fun r s' => r = .ok (.ret (.bool true)) ∧ OldK s₁.heap s'.heap ∧ s'.os = s₁.os ∧ AllBare s'.gens) s₁ := by
  have atA : ∀ {b : Addr} {u : HO}, H b = some u → b = a := fun {b u} z => just b (by rw [z]; exact Option.some_ne_none u)
  have dictFree : ∀ {b : Addr} {o : Obj} {es : Array DictEntry} {n : Nat}, s₁.heap.get? b = some o → o.data = .dict es n → H b = none := by
    intro b o es n z1 z2
    match hb : H b with
    | none => rfl
    | some u =>
      obtain rfl := atA hb
      rw [ha] at z1
      obtain rfl := Option.some.inj z1
      exact nomatch z2
  have nsUp : ∀ {b : Addr} {m : Str → Option Value}, s₁.heap.Ns b m → (hidT s₁.heap H).Ns b m := by
    rintro b m ⟨o, es, n, z1, z2, z3⟩
    exact ⟨o, es, n, hidT_get z1 (dictFree z1 z2), z2, z3⟩
  have inKb : K.In (hidT s₁.heap H) := by
    intro b o z
    refine hidT_get (inK b o z) ?_
    match hb : H b with
    | none => rfl
    | some u =>
      obtain rfl := atA hb
      rw [free (by rw [hb]; exact Option.some_ne_none u)] at z
      exact nomatch z
  obtain ⟨mc, c1, c2⟩ := hlim
  have env0 : Env0 P w K mg (hidT s₁.heap H) callerA [] s₁ H :=
    ⟨rfl, ⟨inKb, nsUp hmod, ⟨mb, nsUp hblt, hall⟩, ⟨mc, nsUp c1, c2⟩⟩, fun b o z => of_hidT z, Nat.le_of_eq (hidT_size _ _), trivial, fun b z => absurd z (by exact List.not_mem_nil), hok, .of_eq gens⟩
  refine codeAny_mono ((F _ inKb (nsUp hmod)).run callerA [] s₁ H ⟨[.ref a], []⟩ [.ref a] [.ref a] _ _ room rfl env0 (hbind s₁ (.ref a)) (.cons rfl .nil) want) fun res s2 out => ?_
  match res, out with
  | .error _, out => exact out.elim
  | .ok .next, out => exact out.elim
  | .ok .brk, out => exact out.elim
  | .ok .cont, out => exact out.elim
  | .ok (.ret u), ⟨v, H2, os2, bare2, un2, hok2, rel2, (ev : v = .bl true)⟩ =>
    subst ev
    obtain rfl : u = Value.bool true := rel2
    refine ⟨rfl, OldK.of_keep fun b o z => ?_, os2, bare2⟩
    match hb : H b with
    | none => exact un2.keep b o z hb (fun y => absurd y (by exact List.not_mem_nil)) (by exact List.not_mem_nil)
    | some u =>
      rcases only b with y | ⟨ob, xs, y⟩
      · rw [hb] at y
        exact nomatch y
      · obtain ⟨z1, _⟩ := hok b _ y
        obtain ⟨z2, _⟩ := hok2 b _ (un2.frzs b ob _ y)
        rw [z] at z1
        obtain rfl := Option.some.inj z1
        exact z2
theorem law_go (inK : K.In s₁.heap) (hmod : s₁.heap.Ns mainGlobals mg) (hblt : s₁.heap.Ns builtinsNs mb) (hall : ∀ x : Str, x ≠ "__name__" → mb x = bootBuiltins x) (hlim : s₁.heap.NoLimit) (gens : s₁.gens = #[])
    (ha : s₁.heap.get? a = some { cls := .type "list", data := .seq vs.toArray }) (hi : IntsAre vs ns) (hl : ns.length ≤ sizeLine) (room : Room k callerA) (F : ∀ base : Heap, K.In base → base.Ns mainGlobals mg → FnG P w K mg base CX0 k fa fd [x] sp)
    (hbind : ∀ (s : Shared) (u : Value), BindsTo s fd ⟨[u], []⟩ [(x, u)]) (want : ∀ H : Hp, Only H → SqL K H a (ns.map V.int) → sp [.ref a] H (fun v _ => v = .bl true) fun _ _ _ => False) :
    codeAny (model P w) callerA (.call (.ref fa) ⟨[.ref a], []⟩) (fun r s' => r = .ok (.ret (.bool true)) ∧ OldK s₁.heap s'.heap ∧ s'.os = s₁.os ∧ AllBare s'.gens) s₁ := by
  have rv := vals_ints hi
  match hk : K.lookup a with
  | some o =>
    have z := inK a o hk
    rw [ha] at z
    obtain rfl := Option.some.inj z
    refine law_from (H := fun _ => none) inK hmod hblt hall hlim gens ha room F hbind (fun _ => .inl rfl) (want _ (fun _ => .inl rfl) (.inr ⟨_, vs.toArray, _, hk, rfl, rfl, rfl, ?_, by simpa using rv⟩)) (fun b u y => nomatch y) (fun b y => absurd rfl y) fun y => absurd rfl y
    rw [List.size_toArray, hi.length]
    exact hl
  | none =>
    let H0 : Hp := fun b => if b = a then some (.frz { cls := .type "list", data := .seq vs.toArray } (.lst (ns.map V.int))) else none
    have at0 : H0 a = some (.frz { cls := .type "list", data := .seq vs.toArray } (.lst (ns.map V.int))) := if_pos rfl
    have off : ∀ {b : Addr}, b ≠ a → H0 b = none := fun n => if_neg n
    have o0 : Only H0 := fun b => by
      by_cases n : b = a
      · exact .inr ⟨_, _, if_pos n⟩
      · exact .inl (off n)
    refine law_from (H := H0) inK hmod hblt hall hlim gens ha room F hbind o0 (want H0 o0 (.inl (.inr ⟨_, at0⟩))) (fun b u y => ?_) (fun b y => ?_) fun _ => hk
    · by_cases n : b = a
      · subst n
        rw [at0] at y
        obtain rfl := Option.some.inj y
        exact ⟨ha, by rw [List.length_map]; exact hl, vs, _, rv, ha⟩
      · rw [off n] at y
        exact nomatch y
    · by_cases n : b = a
      · exact n
      · exact absurd (off n) y
end
theorem walk_G {l : PySem.W.OpenLaw} {n k : Nat} {q : Program} {loose : List Str} {XP : (Str → Option Value) → Heap → Prop} {YP : World → Heap → Prop} {d : DefRec} {K : Params → PySem.W.Frag} {sp : World → Sp} {x : Str} (hn : l.most = some n) (hn2 : n ≤ sizeLine)
    (hdf : d.params.defaults = []) (room : Room k callerA) (hY : ∀ (w : World) (h : Heap), YP w h → (K w.params).In h)
    (F : ∀ (w : World) (mg : Str → Option Value) (fa : Addr) (h : Heap), (K w.params).In h → h.Ns mainGlobals mg → mg d.name = some (.ref fa) → ∃ fd : FuncData, (∀ (s : Shared) (u : Value), BindsTo s fd ⟨[u], []⟩ [(x, u)]) ∧
      ∀ base : Heap, (K w.params).In base → base.Ns mainGlobals mg → FnG l.prog w (K w.params) mg base CX0 k fa fd [x] (sp w))
    (want : ∀ (w : World) (H : Hp) (a : Addr) (ns : List Int), ns.length ≤ n → Only H → SqL (K w.params) H a (ns.map V.int) → sp w [.ref a] H (fun v _ => v = .bl true) fun _ _ _ => False) :
    PySem.W.WalkO q loose XP YP l.row.toRowW d [] (fun f vs => PySem.call f vs) := by
  refine Att.attach_call hn hdf fun w s₀ s₁ mg mb fa o pm cd doc a vs ns G Y ho hd hcd hmg hobj hints hlen hg => ?_
  obtain ⟨fd, hb, hF⟩ := F w mg fa _ (hY w _ Y) G.T.g hmg
  exact law_go (hY w _ Y) G.T.g G.T.b G.T.builtins G.T.nolimit hg hobj hints (Nat.le_trans hlen hn2) room hF hb fun H o1 o2 => want w H a ns hlen o1 o2
end WH
namespace WH
open PySem PySem.Spec PyProof.Rows L2
/-! ### how long a repr can be -/
theorem fits2 {d : PyData} (hl : d.leavesShort 2000 = true) (hw : d.weight ≤ 8000) : d.shown.length ≤ sizeLine := by
  have h1 := PyData.shown_le 2000 (by decide) d hl
  have h2 : (2000 + 2) * d.weight ≤ 2002 * 8000 := Nat.mul_le_mul_left _ hw
  rw [sizeLine_eq]
  omega
theorem short_str {x : Str} (h : PyData.strOk x = true) : PyData.leavesShort 2000 (.str x) = true := by
  unfold PyData.strOk at h
  rw [← Array.all_toList, List.all_eq_true] at h
  simp only [PyData.leavesShort]
  rw [List.all_eq_true]
  intro c hc
  have := of_decide_eq_true (h c hc)
  exact decide_eq_true (by omega)
theorem short_strs : ∀ {ws : List Str}, SOk ws → PyData.leavesShortAll 2000 (dStrs ws) = true
  | [], _ => by simp [dStrs, PyData.leavesShortAll]
  | x :: r, h => by
    have ih := short_strs (ws := r) fun y hy => h y (List.mem_cons_of_mem _ hy)
    have hx := short_str (h x List.mem_cons_self)
    unfold dStrs at ih ⊢
    rw [List.map_cons]
    simp only [PyData.leavesShortAll, hx, ih, Bool.and_self]
theorem weight_strs (m : Nat) : ∀ {ws : List Str}, (∀ x ∈ ws, x.length ≤ m) → PyData.weightAll (dStrs ws) ≤ ws.length * (m + 2)
  | [], _ => by simp [dStrs, PyData.weightAll]
  | x :: r, h => by
    have ih := weight_strs m (ws := r) fun y hy => h y (List.mem_cons_of_mem _ hy)
    have hx : x.cps.size ≤ m := h x List.mem_cons_self
    unfold dStrs at ih ⊢
    rw [List.map_cons]
    simp only [PyData.weightAll, PyData.weight, List.length_cons, Nat.add_mul]
    omega
theorem showable_strs : ∀ {ws : List Str}, PyData.showableAll (dStrs ws) = true
  | [] => by simp [dStrs, PyData.showableAll]
  | x :: r => by
    have ih := showable_strs (ws := r)
    unfold dStrs at ih ⊢
    rw [List.map_cons]
    simp only [PyData.showableAll, PyData.showable, ih, Bool.and_self]
theorem nodict_strs : ∀ {ws : List Str}, PyData.hasDictAll (dStrs ws) = false
  | [] => by simp [dStrs, PyData.hasDictAll]
  | x :: r => by
    have ih := nodict_strs (ws := r)
    unfold dStrs at ih ⊢
    rw [List.map_cons]
    simp only [PyData.hasDictAll, PyData.hasDict, ih, Bool.or_self]
/-- what repr asks of a list of texts -/
theorem repr_strs {K : PySem.W.Frag} {H : Hp} {a : Addr} {ws : List Str} (h : SqL K H a (ws.map V.str)) (sok : SOk ws) (m : Nat) (hm : ∀ x ∈ ws, x.length ≤ m) (hw : ws.length * (m + 2) ≤ 7000) :
    Dp K H (.ref a) (.list (dStrs ws)) ∧ (PyData.list (dStrs ws)).showable = true ∧ (PyData.list (dStrs ws)).hasDict = false ∧ (PyData.list (dStrs ws)).depth ≤ 60 ∧ (PyData.list (dStrs ws)).shown.length ≤ sizeLine := by
  have hd := depth_strs ws
  have hwt := weight_strs m hm
  refine ⟨dp_lst h, by simp only [PyData.showable, showable_strs], by simp only [PyData.hasDict, nodict_strs], ?_, fits2 ?_ ?_⟩
  · simp only [PyData.depth]
    omega
  · simp only [PyData.leavesShort, short_strs sok]
  · simp only [PyData.weight]
    omega
end WH
set_option maxHeartbeats 2000000
namespace WH
open PySem PySem.Spec PyProof.Rows L2 PySem.W PySem.Calls
/-! ### isinstance of a caught error that has fields -/
section
variable {prog : Program} {w : World} {A : Around} {E : Value → Shared → Prop} {s : Shared} {K : PySem.W.Frag} {x D : Addr} {ox : Obj} {od : Option Obj}
theorem data_first {name : Str} {a g : Value} (hc : (clsIn K D).isSome = true) (ha : findIn K (.ref D) name = some (some a)) (hg : specialIn K a "__get__" = some (some g)) (ht : takesIn K a = some true) : findObj K D od name = some (.bind g a) := by
  obtain ⟨cd, hc⟩ := Option.isSome_iff_exists.mp hc
  unfold findObj
  rw [hc, Option.bind_some, ha, Option.bind_some]
  simp [hg, ht]
theorem err_class {Q : Option Value → Shared → Prop} (T : ExcC K D) (X : K.In s.heap) (I : InstAt s.heap x ox D od) (h : Q (some (.ref D)) { s with toks := s.toks + 1 }) : wpAny (model prog w) A (getAttr? (.ref x) "__class__") Q E s := by
  have hf : findObj K D od "__class__" = some (.bind (.builtin "getset_descriptor.__get__") (.builtin "object.__class__")) := data_first (by obtain ⟨cd, hc, _⟩ := any_some T.hd; rw [hc]; rfl) T.ha T.hn T.ht
  obtain ⟨hp, g, d, t, os⟩ := s
  have T0 := I.type (M := model prog w)
  have T1 := looks_findIn (M := model prog w) X T.hg
  have T2 := looks_findIn (M := model prog w) X T.hk
  have T3 := looks_find (M := model prog w) X I hf
  have isB : Looks (model prog w) hp (isInstance (.ref x) (.type "BaseException")) true := T0.andThen (looks_subIn X T.hs)
  have n0 : (false && onTheHeap (Value.builtin "BaseException.__getattribute__")) = false := rfl
  have n2 : (Value.builtin "BaseException.__getattribute__" == Value.builtin "object.__getattribute__") = false := by decide +kernel
  have n1 : (onTheHeap (Value.ref D) && Value.builtin "BaseException.__getattribute__" == Value.builtin "object.__getattribute__") = false := by rw [n2]; rfl
  unfold getAttr? getAttrBy? getAttrBy
  refine wpAny_bind (wpAny_mkText (wpAny_bind (wpAny_attempt (wpAny_holding (wpAny_bind (T0.at (wpAny_bind (T1.at ?_))))))))
  show wpAny _ _ (if (onTheHeap (Value.ref D) && Value.builtin "BaseException.__getattribute__" == Value.builtin "object.__getattribute__") = true then _ else _) _ _ _
  rw [n1, if_neg Bool.false_ne_true]
  unfold getAttrByItsOwn hookBefore
  refine wpAny_bind ?_
  rw [if_pos (show onTheHeap (Value.ref D) = true from rfl)]
  refine T2.at (wpAny_bind (wpAny_attempt (wpAny_holding ?_)))
  unfold callGetattribute
  rw [n0, if_neg Bool.false_ne_true]
  unfold boundAndCalled
  rw [PySem.F.excAttr_ValueError.ga.bind (.ref x)]
  refine wpAny_bind (wpAny_pure ?_)
  show wpAny _ _ (PySem.call (.builtin "BaseException.__getattribute__") [.ref x, .str "__class__" t]) _ _ _
  refine wpAny_call (codeAny_call_builtin PySem.F.excAttr_ValueError.ga.plain PySem.F.entry_bexc_ga ?_)
  refine @check_slot (model prog w) _ _ ⟨hp, g, d, t + 1, os⟩ "BaseException.__getattribute__" "BaseException" "__getattribute__" (.ref x) [.str "__class__" t] [] _ (by decide +kernel) (by decide +kernel) isB (PySem.F.args_bexc_ga (.ref x) (.str "__class__" t)) ?_
  unfold Builtin.«object.__getattribute__»
  refine wpAny_bind (wpAny_of_eq (a := ((Value.ref x : Value), [Value.str "__class__" t])) (by first | rfl | (simp only [slotArgs]; rfl)) ?_)
  refine wpAny_bind (wpAny_pure (wpAny_bind (T0.at (wpAny_bind (T3.at ?_)))))
  show wpAny _ _ (holding [Value.builtin "object.__class__"] (PySem.call (.builtin "getset_descriptor.__get__") [.builtin "object.__class__", .ref x, .ref D]) >>= ret) _ _ _
  refine wpAny_bind (wpAny_holding (wpAny_call (class_get (s := ⟨hp, g, d, t + 1, os⟩) (ox := ox) (od := od) X I T.hm ?_)))
  refine wpAny_pure ?_
  show wpAny _ _ (handedOut (.ref D)) _ _ _
  rw [handedOut_of (v := .ref D) rfl]
  first
    | exact wpAny_pure (wpAny_pure h)
    | exact wpAny_pure h
    | exact wpAny_pure (wpAny_bind (wpAny_pure (wpAny_pure h)))
theorem err_kit (T : ExcC K D) : KitX K (.ref x) (.ref D) (fun h => InstAt h x ox D od) where
  ty := fun _ _ _ I => I.type
  it := fun M h X _ A' Q' E' s' keep q => by
    obtain ⟨cd, hcd, _⟩ := any_some T.hd
    unfold clsIn at hcd
    split at hcd
    · rename_i c1 d1 cd1 l1 hl
      unfold isType loadHead
      exact wpAny_bind (wpAny_loadPart (keep _ _ (X _ _ hl)) (wpAny_pure q))
    · exact nomatch hcd
  ne := fun h tp dd its n sl X htp => (handS_kitx_exc (x := x) (ox := ox) T.hg T.hk T.hs T.hd T.ha T.hn T.ht T.hm).ne h tp dd its n sl X htp
  ca := fun X I k => err_class T X I k
end
section
variable {X : Cx} {a : Addr} {oe : Obj} {cls : Value} {d : Option Addr} {pn : List (Addr × Obj)}
/-- the caught error at a, its class D, its own dict -/
theorem err_at {pins : List (Addr × Obj)} {s : Shared} {σ : Sl} {H : Hp} {D dd : Addr} {fs : List (Str × V)} (I : Inv (X.suite a ((a, oe) :: pn)) pins σ H s) (hz : Zc (.ref D) (some dd) oe) (hf : ∃ vs, oe.data = .fields vs) (hd : H dd = some (.xd fs)) :
    ∃ od, InstAt s.heap a oe D (some od) := by
  obtain ⟨hget, _⟩ := I.pin (a, oe) (List.mem_append.mpr (.inl List.mem_cons_self))
  obtain ⟨vs, hv⟩ := hf
  obtain ⟨mA, hns, _⟩ := (show ObjOk X.prog X.w H s.heap dd (.xd fs) from I.hok dd _ hd)
  obtain ⟨od, ho, _⟩ := lookIn_ns hns
  exact ⟨od, hget, hz.1, by unfold notCls; rw [hv] <;> rfl, by rw [hz.2]; exact ho⟩
/-- isinstance(e, c) -/
def rIsX (K : PySem.W.Frag) (a : Addr) (cls : Value) (d : Option Addr) : List V → Hp → VK → Prop := fun xs H Q => ∃ (D dd : Addr) (fs : List (Str × V)) (c : V) (cv : Value) (b : Bool), cls = .ref D ∧ d = some dd ∧ ExcC K D ∧ H dd = some (.xd fs) ∧ xs = [.ref a, c] ∧ ClsV c cv ∧ kitOne K (.ref D) cv = some b ∧ Q (.bl b) H
theorem call_isX (hz : Zc cls d oe) (hf : ∃ vs, oe.data = .fields vs) : CallR (X.suite a ((a, oe) :: pn)) (.builtin "isinstance") (rIsX X.K a cls d) := by
  intro pins s σ H xs us Q I r h
  obtain ⟨D, dd, fs, c, cv, b, rfl, rfl, T, hd, rfl, hc, e, q⟩ := h
  obtain ⟨u1, u2, rfl, r1, r2⟩ := vals2 r
  obtain rfl : u1 = Value.ref a := r1
  have ec := hc.eq r2
  subst ec
  obtain ⟨od, J⟩ := err_at I hz hf hd
  exact kia_one (err_kit T) I.kIn J e (fun z => nomatch z) fun tk => ⟨.bl b, H, I.kept (t' := tk) fun _ _ z => z, rfl, q⟩
/-- isinstance(e, (c, ..)) -/
def rIsXT (K : PySem.W.Frag) (a : Addr) (cls : Value) (d : Option Addr) : List V → Hp → VK → Prop := fun xs H Q => ∃ (D dd tp : Addr) (fs : List (Str × V)) (cs : List V) (cvs : List Value) (b : Bool), cls = .ref D ∧ d = some dd ∧ ExcC K D ∧ H dd = some (.xd fs) ∧ xs = [.ref a, .ref tp] ∧ H tp = some (.tup cs) ∧
  Paired ClsV cs cvs ∧ kitAny K (.ref D) cvs = some b ∧ Q (.bl b) H
theorem call_isXT (hz : Zc cls d oe) (hf : ∃ vs, oe.data = .fields vs) : CallR (X.suite a ((a, oe) :: pn)) (.builtin "isinstance") (rIsXT X.K a cls d) := by
  intro pins s σ H xs us Q I r h
  obtain ⟨D, dd, tp, fs, cs, cvs, b, rfl, rfl, T, hd, rfl, hT, hc, e, q⟩ := h
  obtain ⟨u1, u2, rfl, r1, r2⟩ := vals2 r
  obtain rfl : u1 = Value.ref a := r1
  obtain rfl : u2 = Value.ref tp := r2
  obtain ⟨od, J⟩ := err_at I hz hf hd
  obtain ⟨_, its, rv, o, h1, h2, n, h3⟩ := (show ObjOk X.prog X.w H s.heap tp (.tup cs) from I.hok tp _ hT)
  have e3 := ClsV.all hc rv
  subst e3
  obtain ⟨oc, oe', dt, sl⟩ := o
  simp only at h2 h3
  subst h2 h3
  exact kia_tup (err_kit T) I.kIn J h1 e (fun z => nomatch z) fun tk => ⟨.bl b, H, I.kept (t' := tk) fun _ _ z => z, rfl, q⟩
end
end WH
namespace WH
open PySem PySem.Spec PyProof.Rows L2
section
variable {X : Cx} {CX : CXT} {k : Nat} {f : Addr} {fd : FuncData} {ps ks : List Str} {sp : Sp} {E : Sl → XK} {x : Str} {p pos : Pos} {kws : List Keyword} {tk : TA} {g : List Value → List Value → List Value} {gV : List V → List V → List V}
/-- f(k = v, ..) within a try -/
def tCallKS (sp : Sp) (gV : List V → List V → List V) (E : Sl → XK) (tk : TA) : TE := fun σ H Q => tk σ H fun zs H1 => sp (gV [] zs) H1 Q (E σ)
theorem pe_callK0S (F : FnOk X.prog X.w X.K X.mg X.base CX k f fd ps sp) (hr : Room k X.A) (hg : Gl X x) (hm : X.mg x = some (.ref f)) (hk : PySem.W.keepIn X.K (.ref f) = true) (hb : KBinds X.K fd ps ks g gV) (hx : ∀ σ, PassesAt CX X σ (E σ)) (hkw : PK X kws tk)
    (hall : (backToKw pos (keywordEach kws X.env)).all (·.1.isSome) = true := by rfl) (hks : (backToKw pos (keywordEach kws X.env)).filterMap (·.1) = ks := by rfl) (hdb : (x == ("__debug__" : Str)) = false := by decide)
    (hpl : ((backTo pos (starEach [] X.env)).any (·.1) || (backToKw pos (keywordEach kws X.env)).any (·.1.isNone)) = false := by rfl) : PE X (.Call (.Name x p) [] kws pos) (tCallKS sp gV E tk) := by
  refine ⟨fun pins s σ H Q I h => wpAny_Call_Name_kw (ld_glob I hg hm ?_ hdb)⟩
  refine PySem.W.callWith_KW0 (h₀ := X.base) I.ok.mod.kin hk hall ?_ hpl
  refine thn (hkw.run pos pins s σ H _ I h) fun ws s2 ⟨zs, H2, I2, rz, q2⟩ => ⟨I2.kIn, ?_⟩
  rw [hks]
  have rel := hb.rel (vs := []) (us := []) .nil rz
  have le : (g [] ws).length = ps.length := by rw [← rel.length]; exact F.len _ _ _ _ q2
  refine wpAny_call (codeAny_mono (F.run X.A X.stack s2 H2 ⟨[], ks.zip ws⟩ (g [] ws) (gV [] zs) Q (E σ) hr I2.env0 (hb.to s2 [] ws I2.kIn le) rel q2) fun res s3 out => ?_)
  match res, out with
  | .error _, out => exact hx σ pins H2 s2 _ s3 I2 out
  | .ok (.ret _), out => exact I2.after out
  | .ok .next, out => exact out.elim
  | .ok .brk, out => exact out.elim
  | .ok .cont, out => exact out.elim
end
end WH
namespace WH
open PySem PySem.Spec PyProof.Rows L2
/-- isinstance against an own class, by subIn -/
theorem kit_ref {K : PySem.W.Frag} {D C : Addr} {b : Bool} (hc : PySem.W.isClsIn K C = true) (ht : PySem.W.typeIn K (.ref C) = some (.type "type")) (hs : PySem.W.subIn K (.ref D) (.ref C) = some b) (hn : b = true ∨ D ≠ C) : PySem.W.kitOne K (.ref D) (.ref C) = some b := by
  unfold PySem.W.kitOne
  by_cases e : D = C
  · have hb : b = true := hn.elim id fun z => absurd e z
    subst e
    rw [if_pos (by simp), hb]
  · rw [if_neg (by simp [e])]
    unfold PySem.W.kitCls
    have hc' : (PySem.W.clsIn K C).isSome = true := hc
    have h : ((PySem.W.clsIn K C).isSome && PySem.W.typeIn K (.ref C) == some (.type "type")) = true := by rw [hc', ht]; rfl
    dsimp only
    rw [if_pos h]
    exact hs
theorem kit_any {K : PySem.W.Frag} {t : Value} : ∀ {cs : List Value}, (∀ c ∈ cs, PySem.W.kitOne K t c = some false) → PySem.W.kitAny K t cs = some false
  | [], _ => rfl
  | c :: r, h => by
    unfold PySem.W.kitAny
    rw [h c List.mem_cons_self]
    exact kit_any fun x hx => h x (List.mem_cons_of_mem _ hx)
theorem kit_VE {K : PySem.W.Frag} {D : Addr} {b : Bool} (hs : PySem.W.subIn K (.ref D) (.type "ValueError") = some b) : PySem.W.kitOne K (.ref D) (.type "ValueError") = some b := by
  unfold PySem.W.kitOne PySem.W.kitCls
  rw [if_neg (by simp)]
  dsimp only
  rw [if_pos (by decide +kernel)]
  exact hs
theorem kit_self {K : PySem.W.Frag} {D : Addr} : PySem.W.kitOne K (.ref D) (.ref D) = some true := by
  unfold PySem.W.kitOne
  rw [if_pos (by simp)]
end WH
set_option maxHeartbeats 2000000
namespace WH
open PySem PySem.Spec PyProof.Rows L2 PySem.W PySem.Calls
/-! ### a def of the law that is called with the caught error, in an except suite -/
/-- what is known of the caught error's object -/
structure Got (q : Addr × Obj) (cls : Value) (d : Option Addr) : Prop where
  z : Zc cls d q.2
  f : ∃ vs, q.2.data = .fields vs
structure FnP (P : Program) (w : World) (K : PySem.W.Frag) (mg : Str → Option Value) (base : Heap) (k : Nat) (f : Addr) (fd : FuncData) (ps : List Str) (sp : Addr → Value → Option Addr → Sp) : Prop where
  len : ∀ a c d vs H Q E, sp a c d vs H Q E → vs.length = ps.length
  run : ∀ (A : Around) (outer : List Env) (s : Shared) (H : Hp) (args : Args) (us : List Value) (vs : List V) (Q : VK) (E : XK) (q : Addr × Obj) (c : Value) (d : Option Addr), Got q c d → L2H.RoomH k A → L2H.PinOk outer H s q →
    Env0 P w K mg base A outer s H → BindsTo s fd args (ps.zip us) → Vals vs us → sp q.1 c d vs H Q E → codeAny (model P w) A (.call (.ref f) args) (CR CX0 outer P w H s Q E) s
section
variable {P : Program} {w : World} {K : PySem.W.Frag} {mg : Str → Option Value} {base : Heap}
theorem Fun.okP {x qual : Str} {st : Stmt} {f : Addr} {fd : FuncData} {N ps : List Str} {k : Nat} {sp : Addr → Value → Option Addr → Sp} (F : Fun K x qual st f fd) (S : FnScope N ps (defScope st)) (len : ∀ a c d vs H Q E, sp a c d vs H Q E → vs.length = ps.length)
    (hbody : ∀ (cdv : Value) (A : Around) (outer : List Env) (s : Shared) (H : Hp) (vs : List V) (Q : VK) (E : XK) (q : Addr × Obj) (c : Value) (d : Option Addr), Got q c d → L2H.RoomH k (A.deeper (envOfC qual (defScope st) s.heap.objs.size f cdv)) → sp q.1 c d vs H Q E →
      ∃ t, PSs (L2H.cxH CX0 P w K mg base N qual (defScope st) f cdv A outer s H E q) (defBody st) t ∧ t { nx := fun _ H' => Q .non H', rt := Q } (start N vs) H) : FnP P w K mg base (k + 1) f fd ps sp := by
  obtain ⟨oc, od, kV, doc, pm, an, cdv, ct, osl, rfl, lk, hcd⟩ := F.ex
  refine ⟨len, fun A outer s H args us vs Q E q c d got room pin env0 bind rel want => ?_⟩
  have inK : K.In s.heap := env0.mod.kin.keeps fun b o z => (env0.bs b o z).1
  have noLim : s.heap.NoLimit := env0.mod.nolimit.keeps fun b o z => (env0.bs b o z).1
  have kinds : ∀ y ∈ ps.zip us, (defScope st).names.lookup y.1 = some .local ∨ ((defScope st).names.lookup y.1 = some .cell ∧ ((cellsFrom (s.heap.objs.size + 1) (defScope st).names []).lookup y.1).isSome = true) := by
    rintro ⟨x', v'⟩ hy
    exact (S.par x' (List.of_mem_zip hy).1).elim (fun z => .inl z) fun z => .inr ⟨z, PySem.W.cellsFrom_some _ _ _ (.inl z)⟩
  refine codeAny_call_function room.depth (inK _ _ lk) rfl S.co S.gen rfl (PySem.W.codeRec_of inK hcd) (bind _ _ _ _ ?_)
  refine wpAny_newFunctionEnv_cells S.kind kinds fun env' isEnv s2 made => ?_
  subst isEnv
  refine ⟨noLim.keeps made.toInCall.keep, codeAny_func ?_⟩
  obtain ⟨t, derived, reading⟩ := hbody cdv A outer s H vs Q E q c d got (room.deeper _) want
  have inv := L2H.inv_startH (CX := CX0) (E := E) S pin env0 (len _ _ _ _ _ _ _ want) rel made
  refine wpAny_mono (derived.run [] s2 (start N vs) H _ inv reading) (fun flow s3 out => ?_) fun _ _ z => z
  have back : ∀ {σ3 : Sl} {H3 : Hp} {v3 : V} {u3 : Value}, Inv (L2H.cxH CX0 P w K mg base N qual (defScope st) f cdv A outer s H E q) [] σ3 H3 s3 → RelV v3 u3 → Q v3 H3 → CE outer P w H s Q u3 s3 := fun J rv3 q3 => ⟨_, _, J.os, J.bare, J.base, J.hok, rv3, q3⟩
  match flow, out with
  | .ret u3, ⟨v3, σ3, H3, J, rv3, q3⟩ => exact back J rv3 q3
  | .next, ⟨σ3, H3, J, q3⟩ => exact back (v3 := V.non) (u3 := Value.none) J rfl q3
  | .brk, ⟨_, _, _, q3⟩ => exact q3.elim
  | .cont, ⟨_, _, _, q3⟩ => exact q3.elim
end
theorem roomH_of {k : Nat} {A : Around} (r : Room k A) (h : Option Value) : L2H.RoomH k (A.mark h) := ⟨r.dp, r.un⟩
section
variable {X : Cx} {k : Nat} {f : Addr} {fd : FuncData} {ps : List Str} {sp : Addr → Value → Option Addr → Sp} {x : Str} {p pos : Pos} {e : Expr} {es : List Expr} {t : TA} {b : Addr} {ob : Obj} {c : Value} {d : Option Addr}
/-- f(e, ..), where b's object is pinned -/
theorem pe_callP (F : FnP X.prog X.w X.K X.mg X.base k f fd ps sp) (hp : (b, ob) ∈ X.pn) (got : Got (b, ob) c d) (hr : L2H.RoomH k X.A) (hg : Gl X x) (hm : X.mg x = some (.ref f)) (hk : PySem.W.keepIn X.K (.ref f) = true) (hb : Binds X.K fd ps []) (ha : PA X (e :: es) t)
    (hdb : (x == ("__debug__" : Str)) = false := by decide) (he : starEach (e :: es) X.env = (false, eval e X.env) :: starEach es X.env := by rfl) (hpl : (backTo pos (starEach es X.env)).any (·.1) = false := by rfl) : PE X (.Call (.Name x p) (e :: es) [] pos) (tCall (sp b c d) [] E0 t) := by
  refine ⟨fun pins s σ H Q I h => wpAny_Call_Name_kw (ld_glob I hg hm ?_ hdb)⟩
  refine PySem.W.callWith_K (h₀ := X.base) I.ok.mod.kin hk (thn (ha.run pos pins s σ H _ I h) fun us s1 ⟨vs, H1, I1, r, q0⟩ => ⟨I1.kIn, ?_⟩) he hpl
  have want : sp b c d vs H1 Q E0 := by simpa using q0
  have le : us.length = ps.length := by rw [← r.length]; exact F.len _ _ _ _ _ _ _ want
  have bd : BindsTo s1 fd ⟨us, []⟩ (ps.zip us) := by simpa using hb s1 us I1.kIn (by simpa using le)
  obtain ⟨pin1, pin2, pin3, pin4, pin5⟩ := I1.pin (b, ob) (List.mem_append_left _ hp)
  have pin : L2H.PinOk X.stack H1 s1 (b, ob) := ⟨pin1, pin2, fun mem => (List.mem_cons.mp (I1.stkSub b mem)).elim pin3 pin4, pin5⟩
  refine wpAny_call (codeAny_mono (F.run X.A X.stack s1 H1 ⟨us, []⟩ us vs Q E0 (b, ob) c d got hr pin I1.env0 bd r want) fun res s2 out => ?_)
  match res, out with
  | .error _, out => exact out.elim
  | .ok (.ret _), out => exact I1.after out
  | .ok .next, out => exact out.elim
  | .ok .brk, out => exact out.elim
  | .ok .cont, out => exact out.elim
end
section
variable {X : Cx} {q : Addr × Obj} {cls : Value} {d : Option Addr}
theorem err_in {pins : List (Addr × Obj)} {s : Shared} {σ : Sl} {H : Hp} {D dd : Addr} {fs : List (Str × V)} (hp : q ∈ X.pn) (I : Inv X pins σ H s) (got : Got q (.ref D) (some dd)) (hd : H dd = some (.xd fs)) :
    ∃ od, InstAt s.heap q.1 q.2 D (some od) := by
  obtain ⟨hget, _⟩ := I.pin q (List.mem_append_left _ hp)
  obtain ⟨hz, vs, hv⟩ := got
  obtain ⟨mA, hns, _⟩ := (show ObjOk X.prog X.w H s.heap dd (.xd fs) from I.hok dd _ hd)
  obtain ⟨od, ho, _⟩ := lookIn_ns hns
  exact ⟨od, hget, hz.1, by unfold notCls; rw [hv] <;> rfl, by rw [hz.2]; exact ho⟩
theorem call_isP (hp : q ∈ X.pn) (got : Got q cls d) : CallR X (.builtin "isinstance") (rIsX X.K q.1 cls d) := by
  intro pins s σ H xs us Q I r h
  obtain ⟨D, dd, fs, c, cv, b, rfl, rfl, T, hd, rfl, hc, e, want⟩ := h
  obtain ⟨u1, u2, rfl, r1, r2⟩ := vals2 r
  obtain rfl : u1 = Value.ref q.1 := r1
  have ec := hc.eq r2
  subst ec
  obtain ⟨od, J⟩ := err_in hp I got hd
  exact kia_one (err_kit T) I.kIn J e (fun z => nomatch z) fun tk => ⟨.bl b, H, I.kept (t' := tk) fun _ _ z => z, rfl, want⟩
theorem call_isPT (hp : q ∈ X.pn) (got : Got q cls d) : CallR X (.builtin "isinstance") (rIsXT X.K q.1 cls d) := by
  intro pins s σ H xs us Q I r h
  obtain ⟨D, dd, tp, fs, cs, cvs, b, rfl, rfl, T, hd, rfl, hT, hc, e, want⟩ := h
  obtain ⟨u1, u2, rfl, r1, r2⟩ := vals2 r
  obtain rfl : u1 = Value.ref q.1 := r1
  obtain rfl : u2 = Value.ref tp := r2
  obtain ⟨od, J⟩ := err_in hp I got hd
  obtain ⟨_, its, rv, o, h1, h2, n, h3⟩ := (show ObjOk X.prog X.w H s.heap tp (.tup cs) from I.hok tp _ hT)
  have e3 := ClsV.all hc rv
  subst e3
  obtain ⟨oc, oe', dt, sl⟩ := o
  simp only at h2 h3
  subst h2 h3
  exact kia_tup (err_kit T) I.kIn J h1 e (fun z => nomatch z) fun tk => ⟨.bl b, H, I.kept (t' := tk) fun _ _ z => z, rfl, want⟩
/-- e.f of the caught error, whatever its class -/
def tXp (K : PySem.W.Frag) (a : Addr) (cls : Value) (d : Option Addr) (f : Str) (te : TE) : TE := fun σ H Q => te σ H fun x H1 => ∃ (D dd : Addr) (fs : List (Str × V)) (v : V), x = .ref a ∧ cls = .ref D ∧ d = some dd ∧ XfC K D ∧ findIn K (.ref D) f = some none ∧
  H1 dd = some (.xd fs) ∧ fs.lookup f = some v ∧ Q v H1
theorem pe_xp {e : Expr} {te : TE} {pos : Pos} {n : Str} (hp : q ∈ X.pn) (got : Got q cls d) (he : PE X e te) (hb : attributeBase e n X.env (eval e X.env) = eval e X.env := by rfl) : PE X (.Attribute e n pos) (tXp X.K q.1 cls d n te) := by
  refine ⟨fun pins s σ H Q I h => attr_of hb (thn (he.run pins s σ H _ I h) fun u s1 hh => ?_)⟩
  obtain ⟨y, H1, I1, ry, D, dd, fs, v, rfl, rfl, rfl, T, hno, ea, l, want⟩ := hh
  obtain rfl : u = Value.ref q.1 := ry
  obtain ⟨there, _⟩ := I1.pin q (List.mem_append_left _ hp)
  obtain ⟨hz, vs, hv⟩ := got
  obtain ⟨mA, hns, hr⟩ := (show ObjOk X.prog X.w H1 s1.heap dd (.xd fs) from I1.hok dd _ ea)
  obtain ⟨od, ho, hl⟩ := lookIn_ns hns
  obtain ⟨u, hu, ru⟩ := RelO.some_of (v := v) (o := mA n) (by rw [← l]; exact hr n)
  have J : InstAt s1.heap q.1 q.2 D (some od) := ⟨there, hz.1, by unfold notCls; rw [hv] <;> rfl, by rw [hz.2]; exact ho⟩
  have found := findObj_own (od := od) T.hdC hno rfl (by rw [hl, hu])
  exact HandSPX.exc_get I1.kIn J T.ga T.gg T.exC found (handed_of ru) ⟨v, H1, I1.tok _, ru, want⟩
end
end WH
namespace WH
open PySem PySem.Spec PyProof.Rows L2
section
variable {X : Cx} {CX : CXT} {k : Nat} {f C : Addr} {fd : FuncData} {ps ks : List Str} {ds : List Value} {dvs : List V} {sp : Sp} {E : Sl → XK} {x : Str} {p pos : Pos} {e : Expr} {es : List Expr} {kws : List Keyword} {t tk : TA} {g : List Value → List Value → List Value} {gV : List V → List V → List V}
/-- C(e, ..) within a try: __init__ may raise -/
def tMakeS (C : Addr) (sp : Sp) (E : Sl → XK) (t : TA) : TE := fun σ H Q => t σ H fun vs H1 => ∀ x dx, H1 x = none → H1 dx = none → dx ≠ x → sp (.ref x :: vs) (upd (upd H1 dx (.own x)) x (.ins C dx [])) (fun v H2 => v = .non ∧ Q (.ref x) H2) (E σ)
theorem pe_makeS (M : Mk X.K C f) (F : FnOk X.prog X.w X.K X.mg X.base CX k f fd ps sp) (hr : Room (k + 1) X.A) (hg : Gl X x) (hm : X.mg x = some (.ref C)) (hb : Binds X.K fd ps []) (hx : ∀ σ, PassesAt CX X σ (E σ))
    (ha : PA X (e :: es) t) (hdb : (x == ("__debug__" : Str)) = false := by decide) (he : starEach (e :: es) X.env = (false, eval e X.env) :: starEach es X.env := by rfl) (hpl : (backTo pos (starEach es X.env)).any (·.1) = false := by rfl) :
    PE X (.Call (.Name x p) (e :: es) [] pos) (tMakeS C sp E t) := by
  refine ⟨fun pins s σ H Q I h => ?_⟩
  refine wpAny_Call_Name_kw (ld_glob I hg hm ?_ hdb)
  refine PySem.W.callWith_K (h₀ := X.base) I.ok.mod.kin M.kp (thn (ha.run pos pins s σ H _ I h) fun us s1 ⟨vs, H1, I1, r, q⟩ => ⟨I1.kIn, ?_⟩) he hpl
  have hq := q (s1.heap.objs.size + 1) s1.heap.objs.size (I1.hok.fresh (Nat.le_succ _)) (I1.hok.fresh (Nat.le_refl _)) (Nat.ne_of_lt (Nat.lt_succ_self _))
  have I2 := Inv.made (C := C) I1
  have r2 : Vals (V.ref (s1.heap.objs.size + 1) :: vs) (Value.ref (s1.heap.objs.size + 1) :: us) := .cons rfl r
  have hl : (Value.ref (s1.heap.objs.size + 1) :: us ++ ([] : List Value)).length = ps.length := by
    have e := r2.length
    rw [F.len _ _ _ _ hq] at e
    rw [List.append_nil]
    exact e.symm
  have hb' := hb s1 (Value.ref (s1.heap.objs.size + 1) :: us)
  refine wpAny_call (make_map (f := f) I1.kIn M.makes M.init (beq_iff_eq.mp M.fn) (codeAny_mono (F.run _ X.stack _ _ ⟨Value.ref (s1.heap.objs.size + 1) :: us, []⟩ (Value.ref (s1.heap.objs.size + 1) :: us) _ _ (E σ) (hr.make C us [])
    (I2.env0.make C us []) (by simpa using hb _ (Value.ref (s1.heap.objs.size + 1) :: us) I2.kIn hl) r2 hq) fun r s' hq' => ?_))
  match r, hq' with
  | .error e, hq' => exact hx σ pins _ _ e s' I2 hq'
  | .ok (.ret u), hq' =>
    obtain ⟨v, H', I3, rv, ev, q3⟩ := I2.after hq'
    subst ev
    exact ⟨rv, ⟨V.ref (s1.heap.objs.size + 1), H', I3, rfl, q3⟩⟩
  | .ok .next, hq' => exact False.elim hq'
  | .ok .brk, hq' => exact False.elim hq'
  | .ok .cont, hq' => exact False.elim hq'
/-- C(k = v, ..) within a try -/
def tMakeK0S (C : Addr) (m : Nat) (sp : Sp) (gV : List V → List V → List V) (E : Sl → XK) (tk : TA) : TE := fun σ H Q => tk σ H fun zs H2 => zs.length = m ∧ ∀ x dx, H2 x = none → H2 dx = none → dx ≠ x →
  sp (gV [.ref x] zs) (upd (upd H2 dx (.own x)) x (.ins C dx [])) (fun v H3 => v = .non ∧ Q (.ref x) H3) (E σ)
theorem pe_makeK0S (M : Mk X.K C f) (F : FnOk X.prog X.w X.K X.mg X.base CX k f fd ps sp) (hr : Room (k + 1) X.A) (hg : Gl X x) (hm : X.mg x = some (.ref C)) (hb : KBn X.K fd ps 1 ks g gV) (hx : ∀ σ, PassesAt CX X σ (E σ)) (hkw : PK X kws tk)
    (hall : (backToKw pos (keywordEach kws X.env)).all (·.1.isSome) = true := by rfl) (hks : (backToKw pos (keywordEach kws X.env)).filterMap (·.1) = ks := by rfl) (hdb : (x == ("__debug__" : Str)) = false := by decide)
    (hpl : ((backTo pos (starEach [] X.env)).any (·.1) || (backToKw pos (keywordEach kws X.env)).any (·.1.isNone)) = false := by rfl) : PE X (.Call (.Name x p) [] kws pos) (tMakeK0S C ks.length sp gV E tk) := by
  refine ⟨fun pins s σ H Q I h => wpAny_Call_Name_kw (ld_glob I hg hm ?_ hdb)⟩
  refine PySem.W.callWith_KW0 (h₀ := X.base) I.ok.mod.kin M.kp hall ?_ hpl
  refine thn (hkw.run pos pins s σ H _ I h) fun ws s2 ⟨zs, H2, I2, rz, l2, q2⟩ => ⟨I2.kIn, ?_⟩
  rw [hks]
  have hq := q2 (s2.heap.objs.size + 1) s2.heap.objs.size (I2.hok.fresh (Nat.le_succ _)) (I2.hok.fresh (Nat.le_refl _)) (Nat.ne_of_lt (Nat.lt_succ_self _))
  have I3 := Inv.made (C := C) I2
  have r1 : Vals [V.ref (s2.heap.objs.size + 1)] [Value.ref (s2.heap.objs.size + 1)] := .cons rfl .nil
  have r2 := hb.rel r1 rz
  refine wpAny_call (make_map (f := f) I2.kIn M.makes M.init (beq_iff_eq.mp M.fn) (codeAny_mono (F.run _ X.stack _ _ ⟨[Value.ref (s2.heap.objs.size + 1)], ks.zip ws⟩ (g [Value.ref (s2.heap.objs.size + 1)] ws) _ _ (E σ) (hr.make C [] (ks.zip ws))
    (I3.env0.make C [] (ks.zip ws)) (hb.to _ [Value.ref (s2.heap.objs.size + 1)] ws I3.kIn rfl (rz.length.symm.trans l2)) r2 hq) fun r s' hq' => ?_))
  match r, hq' with
  | .error e, hq' => exact hx σ pins _ _ e s' I3 hq'
  | .ok (.ret u), hq' =>
    obtain ⟨v, H', I4, rv, ev, q3⟩ := I3.after hq'
    subst ev
    exact ⟨rv, ⟨V.ref (s2.heap.objs.size + 1), H', I4, rfl, q3⟩⟩
  | .ok .next, hq' => exact False.elim hq'
  | .ok .brk, hq' => exact False.elim hq'
  | .ok .cont, hq' => exact False.elim hq'
end
end WH
set_option maxHeartbeats 4000000
namespace PySem
namespace WHX
open PyProof.Rows PySem.W PySem.Calls PySem.HandSPX
section
open Builtin Builtin.ObjectAttr
variable {prog : Program} {w : World} {A : Around} {E : Value → Shared → Prop} {R : Result → Shared → Prop} {h : Heap} {g : Array GenState} {d : Drawn} {t : Nat} {os : OsState} {M : Model}
variable {nm q : Str} {C N : Addr} {bs bm bmB : List Value} {hdct : Bool} {sn : List Str} {sub : List Value} {ab : Bool} {col : Option Bool} {dd : Option Addr} {k0 k1 k2 k3 k5 : Option Value} {B newId initId : String} {kw : List (Str × Value)}
theorem kw_check (F : ExcBaseFacts B newId initId bmB) (hT : ∀ Y : String, bm.contains (.type Y) = bmB.contains (.type Y)) {rest : List Value} {Q : Unit → Shared → Prop}
    (hC : h.get? C = some (excClassObj nm q C N bs bm hdct sn sub ab col dd k0 k1 k2 k3 k5 newId)) (hq : Q () ⟨h, g, d, t, os⟩) : wpAny M A (checkBuiltinCall newId ⟨.ref C :: rest, kw⟩) Q E ⟨h, g, d, t, os⟩ := by
  have has : (Value.ref C :: bm).contains (.type B) = true := by rw [List.contains_cons, hT, F.hasB, Bool.or_true]
  have st := F.noStar
  simp only [checkBuiltinCall, F.newKind, F.newSplit, F.newRow]
  repeat (first | refine wpAny_loadPart_at hC ?_ | (refine wpAny_isSubtype_exc hC ?_; rw [has]) | refine wpAny_staticBase_exc hC ?_ | refine wpAny_madeBy_exc hC ?_ | simp only [bne_self_eq_false, Bool.false_eq_true, if_false] | wp_step)
  exact hq
theorem kw_new (F : ExcBaseFacts B newId initId bmB) (hT : ∀ Y : String, bm.contains (.type Y) = bmB.contains (.type Y)) {rest : List Value}
    (hC : h.get? C = some (excClassObj nm q C N bs bm hdct sn sub ab col dd k0 k1 k2 k3 k5 newId))
    (hq : R (.ok (.ret (.ref (h.objs.size + 1)))) ⟨(h.push { cls := .type "tuple", data := .seq rest.toArray }).push { cls := .ref C, data := .fields #[.ref h.objs.size, .none, .none, .none, .bool false, .none] }, g, d, t, os⟩) (hrest : rest.length ≤ sizeLine) :
    codeAny (model prog w) A (.builtin newId ⟨.ref C :: rest, kw⟩) R ⟨h, g, d, t, os⟩ := by
  have ends := F.ends
  have c1 : (Value.ref C :: bm).contains (.type B) = true := by rw [List.contains_cons, hT, F.hasB, Bool.or_true]
  have c2 : (Value.ref C :: bm).contains (.type "AttributeError") = false := by rw [List.contains_cons, hT, F.noAttr]; rfl
  have c3 : (Value.ref C :: bm).contains (.type "NameError") = false := by rw [List.contains_cons, hT, F.noName]; rfl
  refine codeAny_builtinAt F.entry ?_
  unfold Builtin.«BaseException.__new__»
  refine wpAt_bind ?_
  show wpAt _ _ _ (stack >>= _) _ _ _
  refine wpAt_bind (wpAt_stack fun p below => wpAt_of_wpAny ?_)
  wp_walk
  refine wpAt_of_wpAny ?_
  rw [F.owner]
  repeat (first | with_reducible refine wpAny_madeHere_exc F.canon hC ?_ | with_reducible refine wpAny_loadPart_at hC ?_ | (with_reducible refine wpAny_isSubtype_exc hC ?_; first | rw [c1] | rw [c2] | rw [c3]) | wp_step)
  show R _ _
  rw [Heap.size_push]
  exact hq
theorem kw_type (F : ExcBaseFacts B newId initId bmB) (hT : ∀ Y : String, bm.contains (.type Y) = bmB.contains (.type Y)) {rest : List Value} {fI : Addr} {Q : Fin → Shared → Prop}
    (hC : h.get? C = some (excClassObj nm q C N bs bm hdct sn sub ab col dd k0 k1 k2 k3 k5 newId))
    (hi : W.Looks (model prog w) h (typeLookup (.ref C) "__init__") (some (.ref fI))) (hb : ∀ self, W.Looks (model prog w) h (bindSpecial (.ref fI) self) (.ref fI, [self])) (hrest : rest.length ≤ sizeLine)
    (hq : codeAny (model prog w) A (.call (.ref fI) ⟨.ref (h.objs.size + 1) :: rest, kw⟩)
      (fun r s' => match r with | .ok (.ret v) => v = .none ∧ Q (.done (.ret (.ref (h.objs.size + 1)))) s' | .ok _ => False | .error e => E e s') ⟨(h.push (W.kdv_tup rest)).push (excO C h.objs.size), g, d, t, os⟩) :
    wpAny (model prog w) A (Builtin.«type.__call__» ⟨.ref C :: rest, kw⟩) Q E ⟨h, g, d, t, os⟩ := by
  repeat (first | with_reducible refine wpAny_loadPart_at hC ?_ | with_reducible refine wpAny_madeBy_exc hC ?_ | wp_step)
  refine codeAny_call_builtin_code (Code.quiet_builtin _ F.quiet) (kw_check F hT hC ?_)
  refine kw_new F hT hC ?_ hrest
  show wpAny _ _ _ _ _ _
  have keep : ∀ b o, h.get? b = some o → ((h.push (W.kdv_tup rest)).push (excO C h.objs.size)).get? b = some o := fun b o e => Heap.get?_push_of_some _ (Heap.get?_push_of_some _ e)
  have there := keep _ _ hC
  have made : ((h.push (W.kdv_tup rest)).push (excO C h.objs.size)).get? (h.objs.size + 1) = some (excO C h.objs.size) := by heap_get
  have cC : (Value.ref C :: bm).contains (.ref C) = true := by simp
  have i1 := hi.keeps keep
  have b1 := (hb (.ref (h.objs.size + 1))).keeps keep
  unfold isInstance
  repeat (first | with_reducible refine wpAny_loadPart_at made ?_ | (with_reducible refine wpAny_isSubtype_exc there ?_; rw [cC]) | wp_step)
  show wpAny _ _ (typeLookup (.ref C) _) _ _ _
  refine i1.at (wpAny_holding (wpAny_bind (b1.at (wpAny_bind (wpAny_call (codeAny_mono hq fun r s' z => ?_))))))
  rcases r with e | (v | _ | _ | _) <;> first | exact z | exact z.elim | skip
  obtain ⟨rfl, z⟩ := z
  first
    | exact wpAny_pure (wpAny_pure z)
    | (wp_walk; exact z)
theorem kw_call (F : ExcBaseFacts B newId initId bmB) (hT : ∀ Y : String, bm.contains (.type Y) = bmB.contains (.type Y)) {rest : List Value} {fI : Addr}
    (hC : h.get? C = some (excClassObj nm q C N bs bm hdct sn sub ab col dd k0 k1 k2 k3 k5 newId))
    (hi : W.Looks (model prog w) h (typeLookup (.ref C) "__init__") (some (.ref fI))) (hb : ∀ self, W.Looks (model prog w) h (bindSpecial (.ref fI) self) (.ref fI, [self])) (hrest : rest.length ≤ sizeLine)
    (hq : codeAny (model prog w) (A.under (.builtin "type.__call__" ⟨.ref C :: rest, kw⟩)) (.call (.ref fI) ⟨.ref (h.objs.size + 1) :: rest, kw⟩) (W.InitBack (h.objs.size + 1) R) ⟨(h.push (W.kdv_tup rest)).push (excO C h.objs.size), g, d, t, os⟩) :
    codeAny (model prog w) A (.call (.ref C) ⟨rest, kw⟩) R ⟨h, g, d, t, os⟩ := by
  have f1 := tc_lookup
  have f2 := tc_bind (.ref C)
  have ty : (⟨h, g, d, t, os⟩ : Shared).TypeIs (.ref C) "type" := ⟨_, hC, rfl⟩
  refine codeAny_of_tree ?_
  show wpAny _ _ (callAny (.ref C) _) _ _ _
  repeat (any_goals (first | assumption | with_reducible refine wpAny_loadPart_at hC ?_ | wp_step))
  refine ⟨rfl, ?_⟩
  refine codeAny_call_builtin_at (Code.quiet_builtin _ (by decide +kernel)) entry_typeCall (wpAny_check_type_call_sub hC (kw_type F hT hC hi hb hrest ?_))
  refine codeAny_mono hq fun r s' z => ?_
  rcases r with e | (v | _ | _ | _) <;> exact z
end
end WHX
end PySem
set_option maxHeartbeats 4000000
namespace WH
open PySem PySem.Spec PyProof.Rows L2 PySem.Calls
/-! ### exceptions as values -/
section
variable {X : Cx} {CX : CXT} {k : Nat} {fI C : Addr} {fd : FuncData} {ps ks : List Str} {ds : List Value} {dvs : List V} {sp : Sp} {x : Str} {p pos : Pos} {e : Expr} {es : List Expr} {kws : List Keyword} {ta tk : TA} {g : List Value → List Value → List Value} {gV : List V → List V → List V}
theorem oex_run {pins : List (Addr × Obj)} {σ : Sl} {H : Hp} {s : Shared} {Q : VK} {us : List Value} {kw : List (Str × Value)} {zs : List V} {ws : List Value} (T : OexC X.K C) (iC : PySem.W.findIn X.K (.ref C) "__init__" = some (some (.ref fI))) (tI : PySem.W.typeIn X.K (.ref fI) = some (.type "function"))
    (F1 : FnOk X.prog X.w X.K X.mg X.base CX k fI fd ps sp) (hr : Room (k + 1) X.A) (hx : Passes CX X (fun _ _ _ => False)) (I : Inv X pins σ H s) (hus : us.length ≤ sizeLine) (rz : ∀ a : Addr, Vals (V.ref a :: zs) (Value.ref a :: ws))
    (hb : ∀ (s' : Shared) (a : Addr), X.K.In s'.heap → BindsTo s' fd ⟨Value.ref a :: us, kw⟩ (ps.zip (Value.ref a :: ws)))
    (hq : ∀ a, H a = none → sp (.ref a :: zs) (upd H a (exo a C none)) (fun v H2 => v = .non ∧ Q (.ref a) H2) (fun _ _ _ => False)) :
    wpAny (model X.prog X.w) X.A (call (.ref C) us kw) (EP X pins σ Q) X.xe s := by
  obtain ⟨nm, q, N, bs, bm, sn, sub, ab, col, dd, k0, k1, k2, k3, k5, hC, hbm⟩ := T.cls
  obtain ⟨hp, gs, dr, tok, os⟩ := s
  have hsz : hp.objs.size ≤ hp.objs.size + 1 := Nat.le_succ _
  have want := hq (hp.objs.size + 1) (I.hok.fresh hsz)
  have kk : ∀ b o, hp.get? b = some o → ((hp.push (PySem.W.kdv_tup us)).push (PySem.HandSPX.excO C hp.objs.size)).get? b = some o := fun b o e => Heap.get?_push_of_some _ (Heap.get?_push_of_some _ e)
  have made : ((hp.push (PySem.W.kdv_tup us)).push (PySem.HandSPX.excO C hp.objs.size)).get? (hp.objs.size + 1) = some (PySem.HandSPX.excO C hp.objs.size) := by heap_get
  have I2 : Inv X pins σ (upd H (hp.objs.size + 1) (exo (hp.objs.size + 1) C none)) ⟨(hp.push (PySem.W.kdv_tup us)).push (PySem.HandSPX.excO C hp.objs.size), gs, dr, tok, os⟩ :=
    I.laid (t' := tok) (a := hp.objs.size + 1) (o := exo (hp.objs.size + 1) C none) (h' := (hp.push (PySem.W.kdv_tup us)).push (PySem.HandSPX.excO C hp.objs.size)) kk hsz (exo_ok made)
  refine wpAny_call (PySem.WHX.kw_call F.excBase_ValueError (fun Y => PySem.HandSPX.refsVE_contains Y bm hbm) (I.kIn _ _ hC) (PySem.W.looks_findIn I.kIn iC) (fun self => PySem.W.bind_fn I.kIn self tI) hus
    (codeAny_mono (F1.run _ X.stack _ _ ⟨Value.ref (hp.objs.size + 1) :: us, kw⟩ (Value.ref (hp.objs.size + 1) :: ws) _ _ (fun _ _ _ => False) (hr.make C us kw) (I2.env0.make C us kw) (hb _ (hp.objs.size + 1) I2.kIn) (rz _) want) fun r s' out => ?_))
  match r, out with
  | .error er, out => exact hx pins σ _ _ er s' I2 out
  | .ok (.ret u), out =>
    obtain ⟨v, H', I3, rv, ev, q3⟩ := I2.after out
    subst ev
    exact ⟨rv, ⟨V.ref (hp.objs.size + 1), H', I3, rfl, q3⟩⟩
  | .ok .next, out => exact False.elim out
  | .ok .brk, out => exact False.elim out
  | .ok .cont, out => exact False.elim out
/-- C(e, ..) as a value -/
def tOex (C : Addr) (sp : Sp) (ta : TA) : TE := fun σ H Q => ta σ H fun vs H1 => vs.length ≤ 1000 ∧ ∀ a, H1 a = none → sp (.ref a :: vs) (upd H1 a (exo a C none)) (fun v H2 => v = .non ∧ Q (.ref a) H2) (fun _ _ _ => False)
theorem pe_oex (T : OexC X.K C) (iC : PySem.W.findIn X.K (.ref C) "__init__" = some (some (.ref fI))) (tI : PySem.W.typeIn X.K (.ref fI) = some (.type "function"))
    (F1 : FnOk X.prog X.w X.K X.mg X.base CX k fI fd ps sp) (hr : Room (k + 1) X.A) (hb : Binds X.K fd ps []) (hx : Passes CX X (fun _ _ _ => False)) (hg : Gl X x) (hm : X.mg x = some (.ref C)) (ha : PA X (e :: es) ta)
    (hdb : (x == ("__debug__" : Str)) = false := by decide) (he : starEach (e :: es) X.env = (false, eval e X.env) :: starEach es X.env := by rfl) (hpl : (backTo pos (starEach es X.env)).any (·.1) = false := by rfl) :
    PE X (.Call (.Name x p) (e :: es) [] pos) (tOex C sp ta) := by
  refine ⟨fun pins s σ H Q I h => wpAny_Call_Name_kw (ld_glob I hg hm ?_ hdb)⟩
  refine PySem.W.callWith_K (h₀ := X.base) I.ok.mod.kin T.kC (thn (ha.run pos pins s σ H _ I h) fun us s1 ⟨vs, H1, I1, r1, hz, q1⟩ => ⟨I1.kIn, ?_⟩) he hpl
  have le : us.length ≤ sizeLine := by
    rw [← Paired.length r1, sizeLine_eq]
    omega
  have rz : ∀ a : Addr, Vals (V.ref a :: vs) (Value.ref a :: us) := fun a => .cons rfl r1
  refine oex_run (kw := []) (ws := us) T iC tI F1 hr hx I1 le rz (fun s' a J => ?_) q1
  have hl : (Value.ref a :: us).length = ps.length := by
    rw [← (rz a).length]
    exact F1.len _ _ _ _ (q1 (s1.heap.objs.size + 1) (I1.hok.fresh (Nat.le_succ _))) |>.symm ▸ rfl
  simpa using hb s' (Value.ref a :: us) J (by simpa using hl)
/-- C(k = v, ..) as a value -/
def tOexK (C : Addr) (m : Nat) (sp : Sp) (gV : List V → List V → List V) (tk : TA) : TE := fun σ H Q => tk σ H fun zs H1 => zs.length = m ∧ ∀ a, H1 a = none → sp (gV [.ref a] zs) (upd H1 a (exo a C none)) (fun v H2 => v = .non ∧ Q (.ref a) H2) (fun _ _ _ => False)
theorem pe_oexK (T : OexC X.K C) (iC : PySem.W.findIn X.K (.ref C) "__init__" = some (some (.ref fI))) (tI : PySem.W.typeIn X.K (.ref fI) = some (.type "function"))
    (F1 : FnOk X.prog X.w X.K X.mg X.base CX k fI fd ps sp) (hr : Room (k + 1) X.A) (hb : KBn X.K fd ps 1 ks (fun us ws => us ++ ws) (fun us ws => us ++ ws)) (hx : Passes CX X (fun _ _ _ => False)) (hg : Gl X x) (hm : X.mg x = some (.ref C)) (hkw : PK X kws tk)
    (hall : (backToKw pos (keywordEach kws X.env)).all (·.1.isSome) = true := by rfl) (hks : (backToKw pos (keywordEach kws X.env)).filterMap (·.1) = ks := by rfl) (hdb : (x == ("__debug__" : Str)) = false := by decide)
    (hpl : ((backTo pos (starEach [] X.env)).any (·.1) || (backToKw pos (keywordEach kws X.env)).any (·.1.isNone)) = false := by rfl) : PE X (.Call (.Name x p) [] kws pos) (tOexK C ks.length sp (fun us ws => us ++ ws) tk) := by
  refine ⟨fun pins s σ H Q I h => wpAny_Call_Name_kw (ld_glob I hg hm ?_ hdb)⟩
  refine PySem.W.callWith_KW0 (h₀ := X.base) I.ok.mod.kin T.kC hall ?_ hpl
  refine thn (hkw.run pos pins s σ H _ I h) fun ws s2 ⟨zs, H2, I2, rz, l2, q2⟩ => ⟨I2.kIn, ?_⟩
  rw [hks]
  exact oex_run (us := []) (kw := ks.zip ws) (ws := ws) T iC tI F1 hr hx I2 (Nat.zero_le _) (fun a => .cons rfl rz) (fun s' a J => hb.to s' [Value.ref a] ws J rfl (rz.length.symm.trans l2)) q2
end
section
variable {X : Cx} {pins : List (Addr × Obj)} {σ : Sl} {H : Hp} {s : Shared} {a D dx : Addr} {fs : List (Str × V)}
/-- an exception that stands as a value, its fields -/
def ExV (H : Hp) (a D : Addr) (fs : List (Str × V)) : Prop := ∃ dx, H a = some (exo a D (some dx)) ∧ H dx = some (exd dx fs)
theorem ExV.same {H H' : Hp} (h : ExV H a D fs) (s : Same H H') : ExV H' a D fs := by
  obtain ⟨dx, h1, h2⟩ := h
  exact ⟨dx, s _ _ h1, s _ _ h2⟩
theorem exv_inst (I : Inv X pins σ H s) (h : ExV H a D fs) : ∃ (ox od : Obj) (mA : Str → Option Value), PySem.W.InstAt s.heap a ox D (some od) ∧ (∀ f, RelO (fs.lookup f) (mA f)) ∧ ∀ n, PySem.W.lookIn n od = some (mA n) := by
  obtain ⟨dx, ha, hd⟩ := h
  obtain ⟨t1, ho⟩ := exo_at I.hok ha
  obtain ⟨mA, hns, rel⟩ := exd_at I.hok hd
  obtain ⟨od, hod, hl⟩ := lookIn_ns hns
  exact ⟨_, od, mA, ⟨ho, rfl, rfl, hod⟩, rel, fun n => hl n⟩
end
section
open PySem.W
variable {X : Cx}
/-- isinstance(e, c), e such a value -/
def rIsV (K : PySem.W.Frag) : List V → Hp → VK → Prop := fun xs H Q => ∃ (a D : Addr) (fs : List (Str × V)) (c : V) (cv : Value) (b : Bool), xs = [.ref a, c] ∧ ExV H a D fs ∧ ExcC K D ∧ ClsV c cv ∧ PySem.W.kitOne K (.ref D) cv = some b ∧ Q (.bl b) H
theorem call_isV : CallR X (.builtin "isinstance") (rIsV X.K) := by
  intro pins s σ H xs us Q I r h
  obtain ⟨a, D, fs, c, cv, b, rfl, hv, T, hc, e, q⟩ := h
  obtain ⟨u1, u2, rfl, r1, r2⟩ := vals2 r
  obtain rfl : u1 = Value.ref a := r1
  have ec := hc.eq r2
  subst ec
  obtain ⟨ox, od, mA, J, _, _⟩ := exv_inst I hv
  exact kia_one (err_kit T) I.kIn J e (fun z => nomatch z) fun tk => ⟨.bl b, H, I.kept (t' := tk) fun _ _ z => z, rfl, q⟩
/-- e.f, e such a value -/
def tXv (K : PySem.W.Frag) (f : Str) (te : TE) : TE := fun σ H Q => te σ H fun x H1 => ∃ (a D : Addr) (fs : List (Str × V)) (v : V), x = .ref a ∧ ExV H1 a D fs ∧ XfC K D ∧ PySem.W.findIn K (.ref D) f = some none ∧ fs.lookup f = some v ∧ Q v H1
theorem pe_xv {K : PySem.W.Frag} (hK : X.K = K) {e : Expr} {te : TE} {pos : Pos} {n : Str} (he : PE X e te) (hb : attributeBase e n X.env (eval e X.env) = eval e X.env := by rfl) : PE X (.Attribute e n pos) (tXv K n te) := by
  subst hK
  refine ⟨fun pins s σ H Q I h => attr_of hb (thn (he.run pins s σ H _ I h) fun u s1 hh => ?_)⟩
  obtain ⟨y, H1, I1, ry, a, D, fs, v, rfl, hv, T, hno, l, want⟩ := hh
  obtain rfl : u = Value.ref a := ry
  obtain ⟨ox, od, mA, J, hr, hl⟩ := exv_inst I1 hv
  obtain ⟨u, hu, ru⟩ := RelO.some_of (v := v) (o := mA n) (by rw [← l]; exact hr n)
  exact HandSPX.exc_get I1.kIn J T.ga T.gg T.exC (PySem.W.findObj_own (od := od) T.hdC hno rfl (by rw [hl, hu])) (handed_of ru) ⟨v, H1, I1.tok _, ru, want⟩
/-- what repr gives of a value: of plain ones, of lists and tuples of them, of a dict with one entry -/
inductive Shw (K : PySem.W.Frag) (H : Hp) : V → Str → Prop
  | int (i : Int) : i.natAbs.log2 < 1920 → Shw K H (.int i) (toString i)
  | str (x : Str) : (reprText x).length ≤ sizeLine → Shw K H (.str x) (reprText x)
  | bl (b : Bool) : Shw K H (.bl b) (if b then "True" else "False")
  | non : Shw K H .non "None"
  | data (a : Addr) (d : PyData) : Dp K H (.ref a) d → d.showable = true → d.hasDict = false → d.depth ≤ 60 → d.shown.length ≤ sizeLine → Shw K H (.ref a) d.shown
  | dict (a : Addr) (k : Str) (i : Int) : H a = some (.dK [(.inr k, .int i)]) → (PyData.dict [(.str k, .int i)]).showable = true → (PyData.dict [(.str k, .int i)]).shown.length ≤ sizeLine → Shw K H (.ref a) (PyData.dict [(.str k, .int i)]).shown
def rShow (K : PySem.W.Frag) : List V → Hp → VK → Prop := fun xs H Q => ∃ (v : V) (z : Str), xs = [v] ∧ Shw K H v z ∧ Q (.str z) H
theorem call_show (hG : X.A.guards = some []) (hu : X.A.units + 64 < cLine) : CallR X (.builtin "repr") (rShow X.K) := by
  intro pins s σ H xs us Q I r h
  obtain ⟨v, z, rfl, hs, q⟩ := h
  cases hs with
  | int i hz =>
    obtain ⟨u, rfl, t, rfl⟩ := vals1 r
    exact PySem.P.repr_of_int hz ⟨.str _, H, I.tok _, ⟨_, rfl⟩, q⟩
  | str x hz =>
    obtain ⟨u, rfl, t, rfl⟩ := vals1 r
    exact PySem.P.repr_of_str ⟨.str _, H, I.tok _, ⟨_, rfl⟩, q⟩ hz
  | bl b =>
    obtain ⟨u, rfl, ru⟩ := vals1 r
    cases ru
    exact PySem.P.repr_of_bool ⟨.str _, H, I.tok _, ⟨_, rfl⟩, q⟩
  | non =>
    obtain ⟨u, rfl, ru⟩ := vals1 r
    cases ru
    exact PySem.P.repr_of_none ⟨.str _, H, I.tok _, ⟨_, rfl⟩, q⟩
  | data a d hd hs hn hp hz =>
    obtain ⟨u, rfl, ru⟩ := vals1 r
    obtain rfl : u = Value.ref a := ru
    obtain ⟨as, rd⟩ := hd.reads I d (.ref a) (.ref a) rfl
    exact repr_of_reads' rd hs (PyData.noDict_hsm hn) hG (by omega) (fun _ _ e => e) (fun h' t k keep => ⟨.str d.shown, H, I.kept keep, ⟨_, rfl⟩, q⟩) hz
  | dict a k i hd hs hz =>
    obtain ⟨u, rfl, ru⟩ := vals1 r
    obtain rfl : u = Value.ref a := ru
    obtain ⟨_, sys, vs, kv, m⟩ := dk_of I.hok hd
    obtain ⟨o, es, ep, ho, ⟨e1, e2, e3⟩, e4, ks, pr, nd⟩ := m
    cases kv with
    | @cons p qv ps qs r1 r2 =>
      cases r2
      obtain ⟨k', u⟩ := qv
      obtain ⟨r3, r4⟩ := r1
      obtain ⟨t, rfl⟩ := r4
      have r3 : Sum.inr k = k' := r3
      subst r3
      generalize hes : es.toList = l at pr
      cases pr with
      | @cons en kv' es' kvs' h1 h2 h3 =>
        cases h3
        obtain ⟨tk, hk⟩ : ∃ tk, en.key = .str k tk := by
          have h1k : keyIs (Sum.inr k) en.key = true := h1
          rcases keyIs_shape h1k with ⟨j, t', e, _⟩ | ⟨x, t', e, ek⟩
          · cases e
          · cases e
            exact ⟨t', ek⟩
        have rd : Reads s.heap (.ref a) (PyData.dict [(.str k, .int i)]) (a :: (([] : List Addr) ++ []) ++ ([] ++ [])) := by
          refine .dict ho e1 e4 ?_ ?_
          · rw [hes]
            show ReadsAll _ [en.key] _ _
            rw [hk]
            exact .cons (.str k tk) .nil
          · rw [hes]
            show ReadsAll _ [en.val] _ _
            rw [h2]
            exact .cons (.int i t) .nil
        refine repr_of_reads' rd hs (fun _ h => ?_) hG ?_ (fun _ _ e => e) (fun h' t k keep => ⟨.str _, H, I.kept keep, ⟨_, rfl⟩, q⟩) hz
        · have e : sysModules = a := by simpa using h
          rw [← e] at sys
          simp at sys
        · have : (PyData.dict [(.str k, .int i)]).depth ≤ 2 := by
            simp [PyData.depth, PyData.depthKv]
          omega
end
end WH
namespace WH
open PySem PySem.Spec PyProof.Rows L2
/-! ### z[::-1] -/
def revS (z : Str) : Str := ⟨z.cps.toList.reverse.toArray⟩
theorem revS_len (z : Str) : (revS z).length = z.length := by
  show z.cps.toList.reverse.toArray.size = z.cps.size
  rw [List.size_toArray, List.length_reverse, Array.length_toList]
theorem back_idx (n : Nat) : Builtin.Str.strSliceIndices none none (-1) n = (List.range n).map fun k => n - 1 - k := by
  unfold Builtin.Str.strSliceIndices
  simp only [show ¬ ((-1 : Int) > 0) by decide, if_false]
  unfold sliceRange
  simp only [show ¬ ((-1 : Int) > 0) by decide, if_false]
  by_cases h : ((n : Int) - 1 > -1)
  · rw [if_pos h]
    have e : (((n : Int) - 1 - -1 - -1 - 1) / -(-1)).toNat = n := by
      have : ((n : Int) - 1 - -1 - -1 - 1) = n := by omega
      rw [this]
      simp
    rw [e]
    refine List.map_congr_left fun k hk => ?_
    have := List.mem_range.mp hk
    omega
  · rw [if_neg h]
    have : n = 0 := by omega
    subst this
    rfl
theorem fm_congr {α β : Type} {f g : α → Option β} : ∀ {l : List α}, (∀ x ∈ l, f x = g x) → l.filterMap f = l.filterMap g
  | [], _ => rfl
  | x :: l, h => by
    rw [List.filterMap_cons, List.filterMap_cons, h x List.mem_cons_self, fm_congr fun y hy => h y (List.mem_cons_of_mem _ hy)]
theorem pick_back (xs : List Nat) : ((List.range xs.length).map fun k => xs.length - 1 - k).filterMap (fun i => xs[i]?) = xs.reverse := by
  rw [List.filterMap_map]
  apply List.ext_getElem?
  intro i
  have h : ∀ k, k < xs.length → xs[xs.length - 1 - k]? = some (xs.reverse.getD k 0) := fun k hk => by
    rw [List.getElem?_eq_getElem (by omega), List.getD_eq_getElem?_getD, List.getElem?_reverse hk, List.getElem?_eq_getElem (by omega)]
    rfl
  have e : (List.range xs.length).filterMap ((fun i => xs[i]?) ∘ fun k => xs.length - 1 - k) = (List.range xs.length).map fun k => xs.reverse.getD k 0 := by
    rw [← List.filterMap_eq_map]
    refine fm_congr fun k hk => ?_
    exact h k (List.mem_range.mp hk)
  rw [e, List.getElem?_map]
  by_cases hi : i < xs.length
  · rw [List.getElem?_range hi, List.getElem?_eq_getElem (by simpa using hi)]
    show some (xs.reverse.getD i 0) = _
    rw [List.getD_eq_getElem?_getD, List.getElem?_eq_getElem (by simpa using hi)]
    rfl
  · rw [List.getElem?_eq_none (by simpa using hi), List.getElem?_eq_none (by simpa using hi)]
    rfl
def tRevS (te : TE) : TE := fun σ H Q => te σ H fun x H1 => ∃ z, x = .str z ∧ z.length ≤ sizeLine ∧ Q (.str (revS z)) H1
section
variable {X : Cx}
theorem pe_revS {e : Expr} {te : TE} {k : Nat} {p1 p2 p3 pos : Pos} (he : PE X e te) : PE X (.Subscript e (.Slice none none (some (.UnaryOp .USub (.Constant (.int 1) k p1) p2)) p3) pos) (tRevS te) := by
  refine ⟨fun pins s σ H Q I h => ?_⟩
  refine Subscript_ (thn (he.run pins s σ H _ I h) fun v s1 ⟨x, H1, I1, r1, q1⟩ => ?_)
  obtain ⟨z, ex, hz, q⟩ := q1
  subst ex
  obtain ⟨t, rfl⟩ := r1
  have hst : PO X (some (.UnaryOp .USub (.Constant (.int 1) k p1) p2)) (tPart (tUn (rU fun i => .int (-i)) (tC (.int 1)))) := po_some (pe_un un_neg pe_int)
  refine wpAny_Slice (thn (po_none.run pins s1 σ H1 (fun o H2 => o = none ∧ H2 = H1) I1 ⟨rfl, rfl⟩) fun vl s2 ⟨l, H2, I2, pl, el, e2⟩ => ?_)
  subst el e2
  refine thn (po_none.run pins s2 σ H2 (fun o H3 => o = none ∧ H3 = H2) I2 ⟨rfl, rfl⟩) fun vu s3 ⟨u, H3, I3, pu, eu, e3⟩ => ?_
  subst eu e3
  refine thn (hst.run pins s3 σ H3 (fun o H4 => o = some (-1) ∧ H4 = H3) I3 ⟨1, rfl, -1, rfl, rfl, rfl⟩) fun vs s4 ⟨o, H4, I4, ps, eo, e4⟩ => ?_
  subst eo e4
  obtain ⟨l, rfl, el⟩ := IsPart.raw pl
  obtain ⟨u, rfl, eu⟩ := IsPart.raw pu
  obtain ⟨st, rfl, es⟩ := IsPart.raw ps
  have I5 : Inv X pins σ H4 { s4 with heap := s4.heap.push { cls := .type "slice", data := .fields #[partValue l, partValue u, partValue st] } } := I4.kept (t' := s4.toks) fun b ob q => Heap.get?_push_of_some _ q
  show wpAny (model X.prog X.w) X.A (subscriptTail e (.Slice none none (some (.UnaryOp .USub (.Constant (.int 1) k p1) p2)) p3) (.str z t) (.ref s4.heap.objs.size)) (EP X pins σ Q) X.xe { s4 with heap := s4.heap.push { cls := .type "slice", data := .fields #[partValue l, partValue u, partValue st] } }
  have key : ∀ j uk, st = some (j, uk) → j = -1 := fun j uk e => by
    rw [e] at es
    simpa using es
  cases st with
  | none => simp at es
  | some jk =>
    obtain ⟨j, uk⟩ := jk
    obtain rfl := key j uk rfl
    have hl0 : l = none := by
      cases l with
      | none => rfl
      | some y => simp at el
    have hu0 : u = none := by
      cases u with
      | none => rfl
      | some y => simp at eu
    subst hl0 hu0
    refine tail_any (ops := [.str z t, .ref s4.heap.objs.size]) (typeIs_str _ _ _) (F.slot_str_getitem.lookup) ?_ (by with_unfolding_all rfl)
    refine wpAny_getItem_str_slice (l := none) (u := none) (st := some (-1, uk)) ⟨_, Heap.get?_push_size _ rfl, rfl, rfl⟩ rfl ?_
    have e : (Builtin.Str.strSliceIndices none none (-1) z.length).filterMap (z.cps[·]?) = z.cps.toList.reverse := by
      rw [back_idx]
      have hz2 : z.length = z.cps.toList.length := by simp [Str.length]
      rw [hz2, ← pick_back z.cps.toList]
      refine fm_congr fun i _ => ?_
      rw [Array.getElem?_toList]
    show Made.post (if ((-1 : Int) == 1 && (Builtin.Str.strSliceIndices none none (-1) z.length).length == z.length) = true then Made.val (.str z t)
      else Made.str ⟨((Builtin.Str.strSliceIndices none none (-1) z.length).filterMap (z.cps[·]?)).toArray⟩) (EP X pins σ Q) _
    rw [if_neg (by simp), e]
    refine ⟨?_, .str _, H4, I5.tok _, ⟨_, rfl⟩, q⟩
    show (revS z).length ≤ sizeLine
    rw [revS_len]
    exact hz
end
end WH
namespace WH
open PySem PySem.Spec PyProof.Rows L2
/-! ### sets of texts, and what their order needs -/
def SetX (P : Program) (w : World) (h : Heap) (a : Addr) (ss : List Str) : Prop :=
  ∃ o es ep t zs, h.get? a = some o ∧ o.ExactSet ∧ o.data = Data.set es ep t ∧ ElemsOf (mixKind P w) es.toList ∧ StrsAre (es.toList.map (·.2)) zs ∧ zs.Perm ss ∧ ss.Nodup ∧ es.size < scanBound ∧ t.fits es.size = true ∧ Ris t.place.toList ∧ (w.params.followText "set-order" = true ∨ t.led = true)
def kIn (ss : List Str) : Key → Bool
  | .inl _ => false
  | .inr x => decide (x ∈ ss)
theorem strs_mem {x : Str} : ∀ {vs : List Value} {zs : List Str}, StrsAre vs zs → (x ∈ zs ↔ ∃ t, Value.str x t ∈ vs)
  | _, _, .nil => by simp
  | _, _, .cons y t h => by
    rw [List.mem_cons, strs_mem h]
    constructor
    · rintro (rfl | ⟨u, hu⟩)
      · exact ⟨t, List.mem_cons_self⟩
      · exact ⟨u, List.mem_cons_of_mem _ hu⟩
    · rintro ⟨u, hu⟩
      rcases List.mem_cons.mp hu with e | hu
      · cases e
        exact .inl rfl
      · exact .inr ⟨u, hu⟩
theorem strs_all : ∀ {vs : List Value} {zs : List Str}, StrsAre vs zs → ∀ v ∈ vs, ∃ x t, v = Value.str x t ∧ x ∈ zs
  | _, _, .nil, v, h => by simp at h
  | _, _, .cons y t h, v, hv => by
    rcases List.mem_cons.mp hv with rfl | hv
    · exact ⟨y, t, rfl, List.mem_cons_self⟩
    · obtain ⟨x, u, e, hx⟩ := strs_all h v hv
      exact ⟨x, u, e, List.mem_cons_of_mem _ hx⟩
theorem strs_perm {vs us : List Value} (p : us.Perm vs) : ∀ {zs : List Str}, StrsAre vs zs → ∃ ys, StrsAre us ys ∧ ys.Perm zs := by
  induction p with
  | nil => intro zs h; exact ⟨zs, h, .refl _⟩
  | cons v _ ih =>
    intro zs h
    cases h with
    | cons y t h =>
      obtain ⟨ys, h1, h2⟩ := ih h
      exact ⟨y :: ys, .cons y t h1, h2.cons y⟩
  | swap v u l =>
    intro zs h
    cases h with
    | cons y t h =>
      cases h with
      | cons y2 t2 h => exact ⟨y2 :: y :: _, .cons y2 t2 (.cons y t h), .swap _ _ _⟩
  | trans _ _ ih1 ih2 =>
    intro zs h
    obtain ⟨ys, h1, h2⟩ := ih2 h
    obtain ⟨xs, h3, h4⟩ := ih1 h1
    exact ⟨xs, h3, h4.trans h2⟩
theorem strs_app : ∀ {vs us : List Value} {zs ys : List Str}, StrsAre vs zs → StrsAre us ys → StrsAre (vs ++ us) (zs ++ ys)
  | _, _, _, _, .nil, h => h
  | _, _, _, _, .cons y t g, h => .cons y t (strs_app g h)
theorem isK {P : Program} {w : World} {k : Key} {x : Str} {t : Tok} : (mixKind P w).is k (Value.str x t) = true ↔ k = .inr x := by
  constructor
  · intro h
    exact (mixKind P w).inj _ _ _ h (mixKind_str P w x t)
  · rintro rfl
    exact mixKind_str P w x t
theorem SetX.setOf {P : Program} {w : World} {h : Heap} {a : Addr} {ss : List Str} (hS : SetX P w h a ss) : Heap.SetOf (mixKind P w) h a (kIn ss) ss.length := by
  obtain ⟨o, es, ep, t, zs, h1, h2, h3, h4, h5, h6, h7, h8, h9, _⟩ := hS
  refine ⟨o, es, ep, t, h1, h2, h3, h4, fun k => ?_, h8, h9, ?_⟩
  · constructor
    · intro hk
      cases k with
      | inl i => cases hk
      | inr x =>
        have hx : x ∈ zs := h6.mem_iff.mpr (of_decide_eq_true hk)
        obtain ⟨tk, hm⟩ := (strs_mem h5).mp hx
        obtain ⟨e, he, ee⟩ := List.mem_map.mp hm
        exact ⟨e, he, by rw [ee]; exact mixKind_str P w x tk⟩
    · rintro ⟨e, he, hk⟩
      obtain ⟨x, tk, ex, hx⟩ := strs_all h5 e.2 (List.mem_map.mpr ⟨e, he, rfl⟩)
      rw [ex, isK] at hk
      subst hk
      exact decide_eq_true (h6.mem_iff.mp hx)
  · have := h5.length
    rw [List.length_map, Array.length_toList] at this
    rw [this, h6.length_eq]
theorem SetX.at {P : Program} {w : World} {h h' : Heap} {a : Addr} {ss : List Str} (hS : SetX P w h a ss) (e : ∀ o, h.get? a = some o → h'.get? a = some o) : SetX P w h' a ss := by
  obtain ⟨o, es, ep, t, zs, h1, r⟩ := hS
  exact ⟨o, es, ep, t, zs, e o h1, r⟩
theorem setX_fresh {P : Program} {w : World} {h : Heap} : SetX P w (h.push { cls := Value.type "set", data := Data.set #[] 0 (SetTable.fresh 0 0 !w.params.followText "set-order") }) h.objs.size [] := by
  obtain ⟨o, es, ep, t, g1, g2, g3, g4, g5, g6, g7, g8, g9, g10, g11⟩ := setR_fresh (h := h) w
  have ee : es.toList = [] := List.length_eq_zero_iff.mp (by rw [Array.length_toList]; exact g9)
  refine ⟨o, es, ep, t, [], g1, g2, g3, ?_, ?_, .refl _, List.nodup_nil, g7, g8, g10, g11⟩
  · rw [ee]
    intro e he
    simp at he
  · rw [ee]
    exact .nil
section
variable {P : Program} {w : World} {A : Around} {E : Value → Shared → Prop} {s : Shared} {a : Addr} {ss : List Str} {x : Str} {tk : Tok}
theorem setX_tail {g : Bool → Sem Unit} (hg : ∀ (b : Bool) (s1 : Shared) (Q' : Unit → Shared → Prop), Q' () s1 → wpAny (model P w) A (g b) Q' E s1)
    {o : Obj} {es : Array (Int × Value)} {ep : Nat} {t : SetTable} (h1 : s.heap.get? a = some o) (h2 : o.ExactSet) (h3 : o.data = Data.set es ep t)
    {es1 : Array (Int × Value)} {t2 : SetTable} {zs : List Str} (f4 : ElemsOf (mixKind P w) es1.toList) (f5 : StrsAre (es1.toList.map (·.2)) zs) (f6 : zs.Perm ss) (f7 : ss.Nodup) (f8 : es1.size < scanBound) (f9 : t2.fits es1.size = true) (f10 : Ris t2.place.toList) (f11 : w.params.followText "set-order" = true ∨ t2.led = true)
    {wd : Bool} {R : Option Bool → Shared → Prop} (hR : ∀ h', Heap.SameBut a s.heap h' → SetX P w h' a ss → R (some true) { heap := h', gens := s.gens, drawn := s.drawn, toks := s.toks, os := s.os }) :
    wpAny (model P w) A (do
      storeSet a es1 t2
      if (!wd && t2.tooFull) = true then do
        g (relayAll t2 es1 (SetTable.grown es1.size)).2.2
        storeSet a (relayAll t2 es1 (SetTable.grown es1.size)).1 (relayAll t2 es1 (SetTable.grown es1.size)).2.1
        pure (some true)
      else pure (some true)) R E s := by
  refine wpAny_bind ?_
  refine wpAny_storeSet_of h1 h3 ?_ (fits_of_scanBound f8)
  have at1 := store_at (es' := es1) (t' := t2) h1 h3
  by_cases c : (!wd && t2.tooFull) = true
  · rw [if_pos c]
    refine wpAny_bind (hg _ _ _ ?_)
    refine wpAny_bind ?_
    have pp := relayAll_perm t2 es1 (SetTable.grown es1.size)
    have sz : (relayAll t2 es1 (SetTable.grown es1.size)).1.size = es1.size := by
      have := pp.length_eq
      rwa [Array.length_toList, Array.length_toList] at this
    refine wpAny_storeSet_of at1 rfl ?_ (by rw [sz]; exact fits_of_scanBound f8)
    have at2 := store_at (es' := (relayAll t2 es1 (SetTable.grown es1.size)).1) (t' := (relayAll t2 es1 (SetTable.grown es1.size)).2.1) at1 rfl
    obtain ⟨ys, y1, y2⟩ := strs_perm (pp.map (·.2)) f5
    refine wpAny_pure (hR _ ?_ ?_)
    · exact (Heap.SameBut.update ..).trans (Heap.SameBut.update ..)
    · refine ⟨_, _, _, _, ys, at2, ?_, rfl, ?_, y1, y2.trans f6, f7, ?_, relayAll_fits _ _ _, relayAll_ris _ _ _, ?_⟩
      · exact h2
      · intro e he
        exact f4 e (pp.mem_iff.mp he)
      · rw [sz]
        exact f8
      · rw [relayAll_led]
        exact f11
  · rw [if_neg c]
    refine wpAny_pure (hR _ ?_ ?_)
    · exact Heap.SameBut.update ..
    · exact ⟨_, _, _, _, zs, at1, h2, rfl, f4, f5, f6, f7, f8, f9, f10, f11⟩
theorem setX_add_hashed {Q : Bool → Shared → Prop} (hS : SetX P w s.heap a ss) (room : ss.length + 1 < scanBound)
    (q : ∀ h', Heap.SameBut a s.heap h' → SetX P w h' a (if x ∈ ss then ss else ss ++ [x]) → Q (!decide (x ∈ ss)) { heap := h', gens := s.gens, drawn := s.drawn, toks := s.toks, os := s.os }) :
    wpAny (model P w) A (setAddHashed a (.str x tk) ((mixKind P w).hash (.inr x))) Q E s := by
  have hS0 := hS
  obtain ⟨o, es, ep, t, zs, h1, h2, h3, h4, h5, h6, h7, h8, h9, h10, h11⟩ := hS
  unfold setAddHashed
  apply wpAny_holding
  rw [setAddHashedIn.eq_def]
  dsimp only
  refine wpAny_bind ?_
  refine wpAny_setState_of h1 h3 h9 ?_
  have bs : byScan (.str x tk) es = true := byScan_of (knd := mixKind P w) rfl h8 h4
  rw [if_pos bs]
  refine wpAny_bind ?_
  unfold setAddByScan
  refine wpAny_bind ?_
  refine wpAny_rule ?_
  refine wpAny_bind ?_
  refine wpAny_setScan_of (knd := mixKind P w) (k := .inr x) (mixKind_str P w x tk) h1 h3 h9 h4 ?_
  have mem : ∀ e ∈ es.toList, (mixKind P w).is (.inr x) e.2 = true → x ∈ ss := fun e he hk => by
    obtain ⟨y, u, ey, hy⟩ := strs_all h5 e.2 (List.mem_map.mpr ⟨e, he, rfl⟩)
    rw [ey, isK] at hk
    cases hk
    exact h6.mem_iff.mp hy
  cases hf : List.findIdx? (fun e => (mixKind P w).is (.inr x) e.2) es.toList with
  | some j =>
    have hx : x ∈ ss := by
      obtain ⟨hj, hk, _⟩ := List.findIdx?_eq_some_iff_getElem.mp hf
      exact mem _ (List.getElem_mem hj) hk
    rw [if_pos hx, decide_eq_true hx] at q
    exact wpAny_pure (wpAny_pure (q s.heap (Heap.SameBut.refl _ _) hS0))
  | none =>
    have hx : x ∉ ss := fun hx => by
      have := List.findIdx?_eq_none_iff.mp hf
      obtain ⟨u, hu⟩ := (strs_mem h5).mp (h6.mem_iff.mpr hx)
      obtain ⟨e, he, ee⟩ := List.mem_map.mp hu
      have k := this e he
      rw [ee, mixKind_str] at k
      cases k
    rw [if_neg hx, decide_eq_false hx] at q
    dsimp only
    have pp := layNew_perm t es ((mixKind P w).hash (.inr x)) (.str x tk)
    have pf := layNew_fits t es ((mixKind P w).hash (.inr x)) (.str x tk)
    have pr := layNew_ris t es ((mixKind P w).hash (.inr x)) (.str x tk) h10
    have pl := layNew_led t es ((mixKind P w).hash (.inr x)) (.str x tk)
    generalize layNew t es ((mixKind P w).hash (.inr x)) (.str x tk) = L at pp pf pr pl
    obtain ⟨es1, t1, wd, gave⟩ := L
    dsimp only at pp pf pr pl ⊢
    have sz : es1.size = es.size + 1 := by
      have := pp.length_eq
      rwa [Array.length_toList, Array.length_toList, Array.size_push] at this
    have len := h5.length
    rw [List.length_map, Array.length_toList, h6.length_eq] at len
    have p2 : (es1.toList.map (·.2)).Perm (es.toList.map (·.2) ++ [Value.str x tk]) := by
      have := pp.map (·.2)
      rwa [Array.toList_push, List.map_append] at this
    obtain ⟨ys, y1, y2⟩ := strs_perm p2 (strs_app h5 (.cons x tk .nil))
    have f4 : ElemsOf (mixKind P w) es1.toList := fun e he => by
      have := pp.mem_iff.mp he
      rw [Array.toList_push] at this
      rcases List.mem_append.mp this with h | h
      · exact h4 e h
      · have h : e = ((mixKind P w).hash (.inr x), Value.str x tk) := by simpa using h
        subst h
        exact ⟨⟨.inr x, mixKind_str P w x tk, rfl⟩, rfl⟩
    have nd : (ss ++ [x]).Nodup := by
      rw [List.nodup_append]
      exact ⟨h7, by simp, fun a ha b hb e => by
        simp at hb
        exact hx (by rw [← hb, ← e]; exact ha)⟩
    have led : w.params.followText "set-order" = true ∨ t1.led = true := by
      rw [pl]
      exact h11
    have fin : ∀ h', Heap.SameBut a s.heap h' → SetX P w h' a (ss ++ [x]) → wpAny (model P w) A (pure true) Q E { heap := h', gens := s.gens, drawn := s.drawn, toks := s.toks, os := s.os } := fun h' b1 b2 => wpAny_pure (q h' b1 b2)
    have perm : ys.Perm (ss ++ [x]) := y2.trans (h6.append_right _)
    refine wpAny_bind ?_
    cases gave <;> (first | refine wpAny_pure ?_ | refine wpAny_rule ?_) <;>
    · by_cases c : t1.plain = true
      · rw [if_pos c]
        refine wpAny_bind ?_
        rw [hashByValue_scannable 8 rfl, show plainKind (Value.str x tk) = false from rfl]
        refine wpAny_pure ?_
        rw [if_neg Bool.false_ne_true]
        refine setX_tail (t2 := { t1 with plain := false }) (R := fun a2 s' => wpAny (model P w) A (match a2 with | some added => pure added | none => setAddHashedIn a (.str x tk) ((mixKind P w).hash (.inr x)) 99999) Q E s') ?_ h1 h2 h3 f4 y1 perm nd (by rw [sz]; omega) pf pr led ?_
        · intro b s1 Q' h
          cases b
          · exact wpAny_pure h
          · exact wpAny_rule h
        · exact fin
      · rw [if_neg c]
        refine wpAny_bind ?_
        refine wpAny_pure ?_
        refine setX_tail (R := fun a2 s' => wpAny (model P w) A (match a2 with | some added => pure added | none => setAddHashedIn a (.str x tk) ((mixKind P w).hash (.inr x)) 99999) Q E s') ?_ h1 h2 h3 f4 y1 perm nd (by rw [sz]; omega) pf pr led ?_
        · intro b s1 Q' h
          cases b
          · exact wpAny_pure h
          · exact wpAny_rule h
        · exact fin
theorem setX_add {Q : Value → Shared → Prop} (hS : SetX P w s.heap a ss) (room : ss.length + 1 < scanBound)
    (q : ∀ h', Heap.SameBut a s.heap h' → SetX P w h' a (if x ∈ ss then ss else ss ++ [x]) → Q .none { heap := h', gens := s.gens, drawn := s.drawn, toks := s.toks + 1, os := s.os }) :
    wpAny (model P w) A (call (Value.builtin "set.add") [Value.ref a, Value.str x tk]) Q E s := by
  refine wpAny_call_entry F.slot_set_add (Heap.SetOf.typeIs hS.setOf) F.entry_set_add ?_
  show wpAny (model P w) A.in1 (Builtin.«set.add» { pos := [Value.ref a, Value.str x tk] }) _ E s
  unfold Builtin.«set.add» Builtin.Frozenset.oneOther selfAndOne Builtin.Frozenset.addrOf
  simp only [pure_bind]
  refine wpAny_bind ?_
  show wpAny (model P w) A.in1 (pure (a, Value.str x tk)) _ E s
  refine wpAny_pure ?_
  refine wpAny_bind ?_
  unfold setAdd
  refine wpAny_holding ?_
  refine wpAny_bind ?_
  refine (mixKind P w).pyHash (k := .inr x) (mixKind_str P w x tk) ?_
  refine setX_add_hashed (s := { heap := s.heap, gens := s.gens, drawn := s.drawn, toks := s.toks + 1, os := s.os }) hS room fun h' b1 b2 => ?_
  exact wpAny_pure ⟨_, rfl, q h' b1 b2⟩
theorem sorted_setX {Q : Value → Shared → Prop} (hS : SetX P w s.heap a ss) (hA : A.handled = none) (hl : ss.length < 64)
    (q : ∀ (s' : Shared) (p : Nat) (out : Array Value) (c : Nat) (ys : List Str), (∀ (b : Addr) (o : Obj), s.heap.get? b = some o → s'.heap.get? b = some o) → s'.gens = s.gens → s'.os = s.os → s.heap.objs.size ≤ p → s'.heap.get? p = some (seqObj "list" out c) →
      StrsAre out.toList ys → ys.Perm ss → sortedS ys = true → Q (.ref p) s') : wpAny (model P w) A (call (.builtin "sorted") [.ref a]) Q E s := by
  obtain ⟨o, es, ep, t, zs, h1, h2, h3, h4, h5, h6, h7, h8, h9, h10, h11⟩ := hS
  refine Calls.call_function_entry kind_sorted plain_sorted entry_sorted (args_sorted1 _) ?_
  show wpAny (model P w) A.in1 (Builtin.sorted { pos := [Value.ref a] }) _ E s
  unfold Builtin.sorted
  refine wpAny_bind (wpAny_pure ?_)
  refine wpAny_bind ?_
  refine collect_set (a := a) (es := es) (ep := ep) (t := t) hA ⟨o, h1, h2.1, h3⟩ h9 h8 h10 h11 fun s1 out k1 k2 k3 k4 pp => ?_
  obtain ⟨ys, y1, y2⟩ := strs_perm pp h5
  have hlen : out.length < 64 := by
    have := y1.length
    rw [this, y2.length_eq, h6.length_eq]
    exact hl
  refine wpAny_bind ?_
  refine wpAny_newList ?_ (by rw [sizeLine_eq]; omega)
  refine wpAny_bind ?_
  refine wpAny_holding ?_
  have hg : (s1.heap.push { cls := Value.type "list", data := Data.seq out.toArray }).get? s1.heap.objs.size = some (seqObj "list" out.toArray 0) := Heap.get?_push_size _ rfl
  refine wpAny_call_entry slot_list_sort ⟨_, hg, rfl⟩ entry_list_sort ?_ (args_list_sort _)
  refine list_sort_treeK strKind_oneLt hg y1.keysOf (fun v1 v2 r e => by
    subst e
    exact keyKind_strs y1) hlen fun st p1 p2 => ⟨_, rfl, ?_⟩
  obtain ⟨zs', z1, z2, z3⟩ := sorted_out_str y1 p1 p2
  obtain ⟨e, he⟩ := sortedHeap_at (out := Array.map (fun x => x.snd) (arrOf st)) hg
  refine wpAny_pure ⟨_, rfl, ?_⟩
  refine q _ s1.heap.objs.size _ e zs' (fun b u hb => ?_) k3 k4 k2 he z1 (z2.trans (y2.trans h6)) z3
  have hb1 := k1 b u hb
  have lt := Heap.lt_size hb1
  rw [sortedHeap_old (Nat.ne_of_lt lt) (by rw [size_push']; exact Nat.lt_succ_of_lt lt)]
  exact Heap.get?_push_of_some _ hb1
end
/-! ### as objects of the hand layer -/
theorem relStr {x : Str} {v : Value} (h : L2.RelV (.str x) v) : ∃ tk, v = Value.str x tk := h
def SetXO (P : Program) (w : World) (a : Addr) (ss : List Str) : HO := .ext fun h => SetX P w h a ss
theorem setX_get {X : Cx} {pins : List (Addr × Obj)} {σ : L2.St} {H : Hp} {s : Shared} {a : Addr} {ss : List Str} (I : L2.Inv X pins σ H s) (ha : H a = some (SetXO X.prog X.w a ss)) : SetX X.prog X.w s.heap a ss := (I.hok a _ ha).1
theorem setX_new {w : World} {P : Program} {H : Hp} {h : Heap} {a : Addr} {ss : List Str} (R : SetX P w h a ss) : ObjOk P w H h a (SetXO P w a ss) := by
  obtain ⟨o, es, ep, t, zs, h1, r⟩ := R
  exact ⟨⟨o, es, ep, t, zs, h1, r⟩, ⟨o, h1⟩, fun _ _ p k => p.at k⟩
def rSetX0 (P : Program) (w : World) : List V → Hp → VK → Prop := fun xs H Q => xs = [] ∧ ∀ p, H p = none → Q (.ref p) (upd H p (SetXO P w p []))
theorem cr_setX0 {X : Cx} : CallR X (.type "set") (rSetX0 X.prog X.w) := fun pins s σ H xs us Q I r h => by
  obtain ⟨rfl, q⟩ := h
  cases r
  refine setR_new fun _ => ?_
  refine ⟨.ref s.heap.objs.size, _, Inv.laid I (fun b u e => Heap.get?_push_of_some _ e) (Nat.le_refl _) (setX_new setX_fresh), rfl, q _ (HOk.fresh I.hok (Nat.le_refl _))⟩
def rSetXAdd (P : Program) (w : World) : V → List V → Hp → VK → Prop := fun v xs H Q => ∃ (a : Addr) (x : Str) (ss : List Str), v = .ref a ∧ xs = [.str x] ∧ H a = some (SetXO P w a ss) ∧ ss.length + 1 < scanBound ∧ Q .non (upd H a (SetXO P w a (if x ∈ ss then ss else ss ++ [x])))
theorem mt_setXAdd {X : Cx} : MtR X "set.add" (rSetXAdd X.prog X.w) := fun pins s σ H v xs u us Q I rx rxs h => by
  obtain ⟨a, x, ss, rfl, rfl, ha, room, q⟩ := h
  cases rx
  cases rxs with
  | cons ry rt =>
    cases rt
    obtain ⟨tk, rfl⟩ : ∃ tk, _ = Value.str x tk := relStr ry
    refine setX_add (setX_get I ha) room fun h' sb new => ?_
    refine ⟨.non, _, Inv.write I ?_ (.inl rfl) (fun b u hb hu => (sb.2 b hb).trans hu) ?_ (setX_new new), rfl, q⟩
    · rw [ha]
      trivial
    · obtain ⟨o, _, _, _, _, ho, _⟩ := new
      exact ⟨o, ho⟩
def rSetXIn (P : Program) (w : World) (neg : Bool) : V → V → Hp → VK → Prop := fun v u H Q => ∃ (x : Str) (a : Addr) (ss : List Str), v = .str x ∧ u = .ref a ∧ H a = some (SetXO P w a ss) ∧ Q (.bl (if neg then !decide (x ∈ ss) else decide (x ∈ ss))) H
theorem or_setXIn {X : Cx} : OpR X (compareOp .In) (rSetXIn X.prog X.w false) := fun pins s σ H v u x y Q I rx ry h => by
  obtain ⟨z, a, ss, rfl, rfl, ha, q⟩ := h
  cases ry
  obtain ⟨tk, rfl⟩ : ∃ tk, _ = Value.str z tk := relStr rx
  exact wpAny_inSet_of (mixKind_str _ _ z tk) rfl (setX_get I ha).setOf ⟨.bl _, H, Inv.tok I _, rfl, q⟩
theorem or_setXNotIn {X : Cx} : OpR X (compareOp .NotIn) (rSetXIn X.prog X.w true) := fun pins s σ H v u x y Q I rx ry h => by
  obtain ⟨z, a, ss, rfl, rfl, ha, q⟩ := h
  cases ry
  obtain ⟨tk, rfl⟩ : ∃ tk, _ = Value.str z tk := relStr rx
  exact wpAny_notInSet_of (mixKind_str _ _ z tk) rfl (setX_get I ha).setOf ⟨.bl _, H, Inv.tok I _, rfl, q⟩
def rSortedX (P : Program) (w : World) : List V → Hp → VK → Prop := fun vs H Q => ∃ (a : Addr) (ss : List Str), vs = [.ref a] ∧ H a = some (SetXO P w a ss) ∧ ss.length < 64 ∧ ∀ (ys : List Str) (p : Addr), ys.Perm ss → sortedS ys = true → H p = none → Q (.ref p) (upd H p (.lst (ys.map V.str)))
theorem cr_sortedX {X : Cx} (hc : X.calm = true) : CallR X (.builtin "sorted") (rSortedX X.prog X.w) := fun pins s σ H vs us Q I r h => by
  obtain ⟨a, ss, rfl, ha, hl, q⟩ := h
  rw [Vals.ref1 r]
  refine sorted_setX (setX_get I ha) (I.ok.hd hc) hl fun s' p out c ys k g o hp hg y1 y2 y3 => ?_
  have hlen : (ys.map V.str).length ≤ sizeLine := by
    rw [List.length_map, y2.length_eq, sizeLine_eq]
    omega
  have hn := HOk.fresh I.hok hp
  have ob : ObjOk X.prog X.w (upd H p (.lst (ys.map V.str))) s'.heap p (.lst (ys.map V.str)) := ⟨hlen, out.toList, c, vals_of_strs y1, hg⟩
  have bare : AllBare s'.gens := by
    rw [g]
    exact I.bare
  have J := Inv.call (H' := upd H p (.lst (ys.map V.str))) (h' := s'.heap) (g' := s'.gens) (d' := s'.drawn) (t' := s'.toks) (ch := []) I (Un.laid k hp hn) (HOk.laid I.hok k hp ob) bare (fun x z => absurd z (by simp))
  have e : s' = { heap := s'.heap, gens := s'.gens, drawn := s'.drawn, toks := s'.toks, os := s.os } := by
    cases s'
    cases o
    rfl
  rw [e]
  exact ⟨.ref p, _, J, rfl, q ys p y2 y3 hn⟩
def tSetXAdd (P : Program) (w : World) (to : TE) (t : TA) : TE := fun σ H Q => to σ H fun x H1 => (∃ a ss, x = V.ref a ∧ H1 a = some (SetXO P w a ss)) ∧ t σ H1 fun xs H2 => rSetXAdd P w x xs H2 Q
theorem pe_setXAdd {X : Cx} {o e : PySem.Expr} {es : List PySem.Expr} {to : TE} {t : TA} {apos cpos : Pos} (ho : PE X o to) (ha : PA X (e :: es) t)
    (hbase : attributeBase o "add" X.env (eval o X.env) = eval o X.env)
    (hfew : ((((backTo cpos (starEach (e :: es) X.env)).all fun x => !x.fst) && (backToKw cpos (keywordEach [] X.env)).all fun x => x.fst.isSome) && decide (((e :: es).length + ([] : List PySem.Keyword).length + if ([] : List PySem.Keyword).isEmpty = true then 0 else 1) < 30)) = true)
    (hline : (apos.endLine == cpos.line) = true) (hs : starEach (e :: es) X.env = (false, eval e X.env) :: starEach es X.env) (hplain : ((backTo cpos (starEach es X.env)).any fun x => x.fst) = false) :
    PE X ((o.Attribute "add" apos).Call (e :: es) [] cpos) (tSetXAdd X.prog X.w to t) := ⟨fun pins s σ H Q I h => by
  refine wpAny_Call_method_late hbase hfew hline rfl (thn (ho.run pins s σ H (fun x H1 => (∃ a ss, x = V.ref a ∧ H1 a = some (SetXO X.prog X.w a ss)) ∧ t σ H1 fun xs H2 => rSetXAdd X.prog X.w x xs H2 Q) I h) fun v s1 hv => ?_)
  obtain ⟨x, H1, I1, r1, ⟨a, ss, rfl, hka⟩, q1⟩ := hv
  have hS := (setX_get I1 hka).setOf
  cases r1
  refine ⟨"set", "set.add", F.plainAttrs_set, F.slot_set_add, F.type_set_add, Heap.SetOf.typeIs hS, Heap.SetOf.noDict hS, ?_⟩
  have hA := ha.run cpos pins s1 σ H1 (fun xs H2 => rSetXAdd X.prog X.w (V.ref a) xs H2 Q) I1 q1
  rw [hs] at hA ⊢
  refine Calls.callWith_builtin ?_ (Calls.evalArgs_plain (thn hA fun us s2 hv => ?_))
  · show (false || ((backTo cpos (starEach es X.env)).any fun x => x.fst)) = false
    rw [hplain]
    rfl
  · obtain ⟨vs, H2, I2, r2, q2⟩ := hv
    exact mt_setXAdd pins s2 σ H2 (V.ref a) vs (Value.ref a) us Q I2 rfl r2 q2⟩
end WH
namespace WH
open PySem PySem.Spec PyProof.Rows L2
/-! ### ranges as values -/
def rRange1 : List V → Hp → VK → Prop := fun vs H Q => ∃ j : Int, vs = [V.int j] ∧ ∀ p, H p = none → Q (.ref p) (upd H p (.rng 0 j))
theorem cr_range1 {X : Cx} : CallR X (.type "range") rRange1 := fun pins s σ H vs us Q I r h => by
  obtain ⟨j, rfl, q⟩ := h
  cases r with
  | cons ry rt =>
    cases rt
    obtain ⟨t, rfl⟩ := ry
    refine call_range_1 ⟨.ref s.heap.objs.size, _, Inv.laid I (fun b o e => Heap.get?_push_of_some _ e) (Nat.le_refl _) (o := .rng 0 j) ⟨_, _, _, Heap.get?_push_size _ rfl⟩, rfl, q _ (HOk.fresh I.hok (Nat.le_refl _))⟩
def iRngV (tl : TE) : TI := fun σ H R => tl σ H fun x H1 => ∃ (a : Addr) (lo hi : Int), x = V.ref a ∧ H1 a = some (.rng lo hi) ∧ (-2 ^ 62 ≤ lo ∧ lo < 2 ^ 62 ∧ -2 ^ 62 ≤ hi ∧ hi < 2 ^ 62) ∧ R (Itr lo (hi - lo).toNat) H1
theorem pi_rng {X : Cx} {tg l : PySem.Expr} {tl : TE} (hl : PE X l tl) : PI X tg l (iRngV tl) := ⟨fun pins s σ H R I h => thn (hl.run pins s σ H _ I h) fun v s1 hv => by
  obtain ⟨x, H1, I1, r1, a, lo, hi, rfl, ha, ⟨b1, b2, b3, b4⟩, q⟩ := hv
  cases r1
  obtain ⟨t, u, w, hg⟩ : ∃ t u v, s1.heap.get? a = some { cls := Value.type "range", data := Data.fields #[Value.int lo t, Value.int hi u, Value.int 1 v] } := I1.hok a _ ha
  refine wpAny_pyIter_range hg (small_one b1 b2 b3 b4) ?_
  refine ⟨s1.heap.objs.size, [s1.heap.objs.size], _, Itr lo (hi - lo).toNat, H1, rfl, Inv.kept I1 (fun b o e => Heap.get?_push_of_some _ e), turn_range s1.heap.objs.size lo (hi - lo).toNat, ?_, fun b hb => ?_, q⟩
  · have e1 : lo + ((0 : Nat) : Int) * 1 = lo := by simp
    have e2 : ((hi - lo).toNat : Int) - ((0 : Nat) : Int) = Builtin.Range.rangeSize lo hi 1 := by
      rw [rangeSize_one]
      split <;> omega
    show IsRangeIter _ _ (lo + ((0 : Nat) : Int) * 1) (((hi - lo).toNat : Int) - ((0 : Nat) : Int)) 1
    rw [e1, e2]
    exact Heap.get?_push_size _ rfl
  · have hb : b = s1.heap.objs.size := by simpa using hb
    subst hb
    exact Inv.fpOk (s := s1) I1 (Nat.le_refl _) (HOk.fresh I1.hok (Nat.le_refl _))⟩
end WH
namespace WH
/-! ### heaps: the way of heapify, heappush, heappop over a row of things, by places -/
/-- t is at or above -/
inductive Desc (t : Nat) : Nat → Prop
  | refl : Desc t t
  | step {c : Nat} : 0 < c → Desc t ((c - 1) / 2) → Desc t c
theorem Desc.le {t p : Nat} (h : Desc t p) : t ≤ p := by
  induction h with
  | refl => exact Nat.le_refl _
  | step h _ ih => omega
theorem Desc.up {t p : Nat} (h : Desc t p) (l : t < p) : Desc t ((p - 1) / 2) ∧ t ≤ (p - 1) / 2 := by
  cases h with
  | refl => omega
  | step h1 h2 => exact ⟨h2, h2.le⟩
structure Pre {α : Type} (le : α → α → Prop) : Prop where
  trans : ∀ a b c, le a b → le b c → le a c
  total : ∀ a b, le a b ∨ le b a
section
variable {α : Type} {le : α → α → Prop} {t pos n : Nat} {f g : Nat → α}
/-- all pairs with the upper one at t or behind it are right -/
def HeapFrom (le : α → α → Prop) (t n : Nat) (f : Nat → α) : Prop := ∀ i, 0 < i → i < n → t ≤ (i - 1) / 2 → le (f ((i - 1) / 2)) (f i)
structure Dn (le : α → α → Prop) (t pos n : Nat) (f : Nat → α) : Prop where
  pr : ∀ i, 0 < i → i < n → t ≤ (i - 1) / 2 → i ≠ pos → (i - 1) / 2 ≠ pos → le (f ((i - 1) / 2)) (f i)
  gp : t < pos → ∀ c, 0 < c → c < n → (c - 1) / 2 = pos → le (f ((pos - 1) / 2)) (f c)
  ds : Desc t pos
  lt : pos < n
structure Up (le : α → α → Prop) (t pos n : Nat) (f : Nat → α) : Prop where
  pr : ∀ i, 0 < i → i < n → t ≤ (i - 1) / 2 → i ≠ pos → le (f ((i - 1) / 2)) (f i)
  gp : t < pos → ∀ c, 0 < c → c < n → (c - 1) / 2 = pos → le (f ((pos - 1) / 2)) (f c)
  ds : Desc t pos
  lt : pos < n
/-- two places exchanged -/
structure Swp (f g : Nat → α) (x y : Nat) : Prop where
  i : g x = f y
  j : g y = f x
  o : ∀ k, k ≠ x → k ≠ y → g k = f k
theorem Dn.of (h : HeapFrom le (t + 1) n f) (l : t < n) : Dn le t t n f := ⟨fun i h1 h2 h3 h4 h5 => h i h1 h2 (by omega), fun z => absurd z (Nat.lt_irrefl _), .refl, l⟩
theorem Dn.down (h : Dn le t pos n f) {c : Nat} (hc : 0 < c) (hn : c < n) (hp : (c - 1) / 2 = pos) (least : ∀ d, 0 < d → d < n → (d - 1) / 2 = pos → d ≠ c → le (f c) (f d)) (s : Swp f g c pos) : Dn le t c n g := by
  have tp := h.ds.le
  refine ⟨fun i h1 h2 h3 h4 h5 => ?_, fun _ d h1 h2 h3 => ?_, .step hc (by rw [hp]; exact h.ds), hn⟩
  · by_cases e : i = pos
    · subst e
      rw [s.j, s.o _ (by omega) (by omega)]
      exact h.gp (by omega) c hc hn hp
    · by_cases e2 : (i - 1) / 2 = pos
      · rw [e2, s.j, s.o i h4 e]
        exact least i h1 h2 e2 h4
      · rw [s.o i h4 e, s.o _ h5 e2]
        exact h.pr i h1 h2 h3 e e2
  · rw [hp, s.j, s.o d (by omega) (by omega)]
    have := h.pr d h1 h2 (by omega) (by omega) (by omega)
    rwa [h3] at this
theorem Dn.leaf (h : Dn le t pos n f) (l : n ≤ 2 * pos + 1) : Up le t pos n f := ⟨fun i h1 h2 h3 h4 => h.pr i h1 h2 h3 h4 (by omega), h.gp, h.ds, h.lt⟩
theorem Up.up (P : Pre le) (h : Up le t pos n f) (l : t < pos) (x : le (f pos) (f ((pos - 1) / 2))) (s : Swp f g ((pos - 1) / 2) pos) : Up le t ((pos - 1) / 2) n g := by
  obtain ⟨d1, d2⟩ := h.ds.up l
  have hl := h.lt
  refine ⟨fun i h1 h2 h3 h4 => ?_, fun l2 c h1 h2 h3 => ?_, d1, by omega⟩
  · by_cases e : i = pos
    · subst e
      rw [s.i, s.j]
      exact x
    · by_cases e2 : (i - 1) / 2 = pos
      · rw [e2, s.j, s.o i h4 e]
        exact h.gp l i h1 h2 e2
      · by_cases e3 : (i - 1) / 2 = (pos - 1) / 2
        · rw [e3, s.i, s.o i h4 e]
          have := h.pr i h1 h2 h3 e
          rw [e3] at this
          exact P.trans _ _ _ x this
        · rw [s.o i h4 e, s.o _ e3 e2]
          exact h.pr i h1 h2 h3 e
  · obtain ⟨d3, d4⟩ := d1.up l2
    have pp := h.pr ((pos - 1) / 2) (by omega) (by omega) d4 (by omega)
    rw [s.o (((pos - 1) / 2 - 1) / 2) (by omega) (by omega)]
    by_cases e : c = pos
    · subst e
      rw [s.j]
      exact pp
    · rw [s.o c (by omega) e]
      have := h.pr c h1 h2 (by omega) e
      rw [h3] at this
      exact P.trans _ _ _ pp this
theorem Up.top (h : Up le t pos n f) (e : ¬ t < pos) : HeapFrom le t n f := fun i h1 h2 h3 => h.pr i h1 h2 h3 fun z => by
  have := h.ds.le
  omega
theorem Up.done (h : Up le t pos n f) (x : le (f ((pos - 1) / 2)) (f pos)) : HeapFrom le t n f := fun i h1 h2 h3 => by
  by_cases e : i = pos
  · rw [e]
    exact x
  · exact h.pr i h1 h2 h3 e
theorem HeapFrom.half (h : n ≤ 2 * t + 1) : HeapFrom le t n f := fun i h1 h2 h3 => by omega
/-- the first is the least -/
theorem HeapFrom.least (P : Pre le) (h : HeapFrom le 0 n f) : ∀ i, i < n → le (f 0) (f i)
  | 0, _ => (P.total (f 0) (f 0)).elim id id
  | i + 1, hi => P.trans _ _ _ (HeapFrom.least P h (i / 2) (by omega)) (by
    have := h (i + 1) (by omega) hi (Nat.zero_le _)
    rwa [Nat.add_sub_cancel] at this)
end
end WH
namespace WH
open PySem PySem.Spec PyProof.Rows L2
/-! ### heaps of (number, text, text) -/
abbrev I3 := Int × Str × Str
def lt3 (x y : I3) : Bool := if x.1 = y.1 then (if x.2.1 = y.2.1 then (if x.2.2 = y.2.2 then false else decide (x.2.2.cps.toList < y.2.2.cps.toList)) else decide (x.2.1.cps.toList < y.2.1.cps.toList)) else decide (x.1 < y.1)
def It3 (h : Heap) (v : Value) (x : I3) : Prop := ∃ p i s t, v = .ref p ∧ h.IsTuple p #[.int x.1 i, .str x.2.1 s, .str x.2.2 t]
section
variable {P : Program} {w : World} {A : Around} {E : Value → Shared → Prop} {s : Shared} {a : Addr} {x y : I3} {v u : Value}
theorem rc_str {b c : Str} {t k : Tok} : Ob.RcOp .Lt A s (.str b t) (.str c k) (decide (b.cps.toList < c.cps.toList)) := fun prog w E Q q => lt_str q
theorem lt3_rc (hx : It3 s.heap v x) (hy : It3 s.heap u y) (hu : A.units < cLine) : Ob.RcOp .Lt A s v u (lt3 x y) := by
  obtain ⟨p, i, b, c, rfl, hp⟩ := hx
  obtain ⟨q, i', b', c', rfl, hq⟩ := hy
  have h := Ob.RcOp.tuples_lt (e := fun j => match j with | 0 => x.1 == y.1 | 1 => x.2.1 == y.2.1 | _ => x.2.2 == y.2.2) (r := fun j => match j with | 0 => decide (x.1 < y.1) | 1 => decide (x.2.1.cps.toList < y.2.1.cps.toList) | _ => decide (x.2.2.cps.toList < y.2.2.cps.toList)) hp hq hu ?_ ?_
  · have e : Ob.lexAt (fun j => match j with | 0 => x.1 == y.1 | 1 => x.2.1 == y.2.1 | _ => x.2.2 == y.2.2) (fun j => match j with | 0 => decide (x.1 < y.1) | 1 => decide (x.2.1.cps.toList < y.2.1.cps.toList) | _ => decide (x.2.2.cps.toList < y.2.2.cps.toList)) (decide ((3 : Nat) < 3)) 0 3 = lt3 x y := by
      unfold lt3
      simp only [Ob.lexAt_succ, Ob.lexAt_zero, beq_iff_eq]
      rfl
    rw [← e]
    exact h
  · intro j h1 h2
    match j, h1, h2 with
    | 0, _, _ => exact SeqAt.EqAt.int_int _ _ _ _
    | 1, _, _ => exact SeqAt.EqAt.str_str _ _ _ _
    | 2, _, _ => exact SeqAt.EqAt.str_str _ _ _ _
    | (k + 3), h1, _ => exact absurd h1 (by simp)
  · intro j h1 h2 _
    match j, h1, h2 with
    | 0, _, _ => exact Ob.RcOp.lt_int _ _ _ _
    | 1, _, _ => exact rc_str
    | 2, _, _ => exact rc_str
    | (k + 3), h1, _ => exact absurd h1 (by simp)
theorem cps_inj {a b : Str} (h : a.cps.toList = b.cps.toList) : a = b := ext_toList h
def le3 (x y : I3) : Prop := x.1 < y.1 ∨ (x.1 = y.1 ∧ (x.2.1.cps.toList < y.2.1.cps.toList ∨ (x.2.1 = y.2.1 ∧ ¬ y.2.2.cps.toList < x.2.2.cps.toList)))
theorem tri (a b : List Nat) : a < b ∨ a = b ∨ b < a := by
  by_cases h : a < b
  · exact .inl h
  · by_cases g : b < a
    · exact .inr (.inr g)
    · exact .inr (.inl (Std.le_antisymm (List.not_lt.mp g) (List.not_lt.mp h)))
theorem lt3_le {x y : I3} : lt3 y x = false ↔ le3 x y := by
  unfold lt3 le3
  by_cases h1 : y.1 = x.1
  · rw [if_pos h1]
    by_cases h2 : y.2.1 = x.2.1
    · rw [if_pos h2]
      by_cases h3 : y.2.2 = x.2.2
      · rw [if_pos h3, h1, h2, h3]
        exact ⟨fun _ => .inr ⟨rfl, .inr ⟨rfl, List.lt_irrefl _⟩⟩, fun _ => rfl⟩
      · rw [if_neg h3, h1, h2]
        constructor
        · intro h
          exact .inr ⟨rfl, .inr ⟨rfl, of_decide_eq_false h⟩⟩
        · rintro (h | ⟨_, h | ⟨_, h⟩⟩)
          · exact absurd h (Int.lt_irrefl _)
          · exact absurd h (List.lt_irrefl _)
          · exact decide_eq_false h
    · rw [if_neg h2, h1]
      constructor
      · intro h
        rcases tri x.2.1.cps.toList y.2.1.cps.toList with g | g | g
        · exact .inr ⟨rfl, .inl g⟩
        · exact absurd (cps_inj g).symm h2
        · exact absurd g (of_decide_eq_false h)
      · rintro (h | ⟨_, h | ⟨h, _⟩⟩)
        · exact absurd h (Int.lt_irrefl _)
        · exact decide_eq_false fun g => List.lt_irrefl _ (List.lt_trans g h)
        · exact absurd h.symm h2
  · rw [if_neg h1]
    constructor
    · intro h
      have := of_decide_eq_false h
      exact .inl (by omega)
    · rintro (h | ⟨h, _⟩)
      · exact decide_eq_false (by omega)
      · exact absurd h.symm h1
theorem pre3 : Pre (fun x y : I3 => lt3 y x = false) := by
  refine ⟨fun a b c h g => ?_, fun a b => ?_⟩
  · rw [lt3_le] at h g ⊢
    rcases h with h | ⟨h, h2⟩
    · rcases g with g | ⟨g, _⟩
      · exact .inl (by omega)
      · exact .inl (by omega)
    · rcases g with g | ⟨g, g2⟩
      · exact .inl (by omega)
      · refine .inr ⟨by omega, ?_⟩
        rcases h2 with h2 | ⟨h2, h3⟩
        · rcases g2 with g2 | ⟨g2, _⟩
          · exact .inl (List.lt_trans h2 g2)
          · exact .inl (by rw [← g2]; exact h2)
        · rcases g2 with g2 | ⟨g2, g3⟩
          · exact .inl (by rw [h2]; exact g2)
          · exact .inr ⟨h2.trans g2, fun z => g3 (Std.lt_of_lt_of_le z (List.not_lt.mp h3))⟩
  · rw [lt3_le, lt3_le]
    unfold le3
    rcases Int.lt_trichotomy a.1 b.1 with h | h | h
    · exact .inl (.inl h)
    · rcases tri a.2.1.cps.toList b.2.1.cps.toList with g | g | g
      · exact .inl (.inr ⟨h, .inl g⟩)
      · by_cases k : b.2.2.cps.toList < a.2.2.cps.toList
        · exact .inr (.inr ⟨h.symm, .inr ⟨(cps_inj g).symm, fun z => List.lt_irrefl _ (List.lt_trans z k)⟩⟩)
        · exact .inl (.inr ⟨h, .inr ⟨cps_inj g, k⟩⟩)
      · exact .inr (.inr ⟨h.symm, .inl g⟩)
    · exact .inr (.inl h)
/-- a list of such things, by places -/
structure HLx (h : Heap) (a : Addr) (its : Array Value) (n : Nat) (f : Nat → I3) : Prop where
  ob : ∃ c, h.get? a = some (seqObj "list" its c)
  sz : its.size = n
  it : ∀ k v, its[k]? = some v → It3 h v (f k)
abbrev leq (x y : I3) : Prop := lt3 y x = false
theorem It3.ne {h : Heap} {c : Nat} {its : Array Value} (hx : It3 h v x) (ha : h.get? a = some (seqObj "list" its c)) : v ≠ .ref a := by
  obtain ⟨p, i, b, k, rfl, o, h1, h2, _⟩ := hx
  intro e
  cases e
  rw [ha] at h1
  cases h1
  have h2 : Value.type "list" = Value.type "tuple" := h2
  exact absurd h2 (by decide)
theorem It3.upd {h : Heap} {c : Nat} {its : Array Value} {g : Obj → Obj} (hx : It3 h v x) (ha : h.get? a = some (seqObj "list" its c)) : It3 (h.update a g) v x := by
  have ne := hx.ne ha
  obtain ⟨p, i, b, k, rfl, o, h1, h2⟩ := hx
  exact ⟨p, i, b, k, rfl, o, ((Heap.SameBut.update h a g).2 p (fun e => ne (by rw [e]))).trans h1, h2⟩
theorem w_at {its : Array Value} {i : Nat} {Q : Value → Shared → Prop} (h : its[i]? = some v) (q : Q v s) : wpAny (model P w) A (match its[i]? with | some v => pure v | none => unsupported "internal:_heapq.index") Q E s := by
  rw [h]
  exact wpAny_pure q
def swF (f : Nat → I3) (i j : Nat) : Nat → I3 := fun k => if k = i then f j else if k = j then f i else f k
theorem swF_swp {f : Nat → I3} {i j : Nat} (h : i ≠ j) : Swp f (swF f i j) i j := ⟨if_pos rfl, by
  unfold swF
  rw [if_neg (Ne.symm h), if_pos rfl], fun k h1 h2 => by
  unfold swF
  rw [if_neg h1, if_neg h2]⟩
theorem HLx.swap {h : Heap} {its : Array Value} {n : Nat} {f : Nat → I3} (hl : HLx h a its n f) {i j : Nat} (hij : i ≠ j) {vi vj : Value} (hi : its[i]? = some vi) (hj : its[j]? = some vj) :
    HLx (h.update a (Obj.mapSeq fun xs => (xs.setIfInBounds i vj).setIfInBounds j vi)) a ((its.setIfInBounds i vj).setIfInBounds j vi) n (swF f i j) ∧ ((its.setIfInBounds i vj).setIfInBounds j vi).toList.Perm its.toList := by
  obtain ⟨⟨c, ho⟩, hs, hit⟩ := hl
  have li : i < its.size := (Array.getElem?_eq_some_iff.mp hi).1
  have lj : j < its.size := (Array.getElem?_eq_some_iff.mp hj).1
  refine ⟨⟨⟨_, Heap.get?_update_self _ ho rfl⟩, by rw [Array.size_setIfInBounds, Array.size_setIfInBounds]; exact hs, fun k v hk => ?_⟩, ?_⟩
  · rw [Array.getElem?_setIfInBounds] at hk
    unfold swF
    by_cases e : j = k
    · subst e
      rw [if_pos rfl, if_pos (by rw [Array.size_setIfInBounds]; exact lj)] at hk
      obtain rfl := Option.some.inj hk
      rw [if_neg (Ne.symm hij), if_pos rfl]
      exact (hit i _ hi).upd ho
    · rw [if_neg e, Array.getElem?_setIfInBounds] at hk
      by_cases e2 : i = k
      · subst e2
        rw [if_pos rfl, if_pos li] at hk
        obtain rfl := Option.some.inj hk
        rw [if_pos rfl]
        exact (hit j _ hj).upd ho
      · rw [if_neg e2] at hk
        rw [if_neg (Ne.symm e2), if_neg (Ne.symm e)]
        exact (hit k _ hk).upd ho
  · rw [Array.toList_setIfInBounds, Array.toList_setIfInBounds]
    have h1 : i < its.toList.length := by rwa [Array.length_toList]
    have h2 : j < its.toList.length := by rwa [Array.length_toList]
    have e1 : vi = its.toList[i] := by
      have := Array.getElem?_eq_some_iff.mp hi
      rw [Array.getElem_toList]
      exact this.2.symm
    have e2 : vj = its.toList[j] := by
      have := Array.getElem?_eq_some_iff.mp hj
      rw [Array.getElem_toList]
      exact this.2.symm
    rw [e1, e2]
    exact List.set_set_perm h1 h2
theorem sift_ok (hu : A.in1.units < cLine) (n : Nat) (hn : n ≤ sizeLine) (result : Value) : ∀ (m : Nat) (s : Shared) (its : Array Value) (f : Nat → I3) (down : Bool) (pos top : Nat) (after : Int) (t1 t2 t3 : Tok) {R : Result → Shared → Prop},
    after = (top : Int) - 1 → (after + 1).toNat * (2 * n + 2) + (if down = true then (n - pos) + n + 1 else pos) < m → HLx s.heap a its n f → (if down = true then Dn leq top pos n f else Up leq top pos n f) →
    (∀ h' its' f', HLx h' a its' n f' → its'.toList.Perm its.toList → HeapFrom leq 0 n f' → Heap.SameBut a s.heap h' → R (.ok (.ret result)) { heap := h', gens := s.gens, drawn := s.drawn, toks := s.toks, os := s.os }) →
    codeAny (model P w) A (Code.builtin "_heapq.heapify.sift" { pos := [.ref a, .bool false, .bool down, .int pos t1, .int top t2, result, .int after t3] }) R s := by
  intro m
  induction m with
  | zero =>
    intro s its f down pos top after t1 t2 t3 R he hm hl hd hR
    exact absurd hm (Nat.not_lt_zero _)
  | succ m ih =>
    intro s its f down pos top after t1 t2 t3 R he hm hl hd hR
    have hl0 := hl
    obtain ⟨⟨c, ho⟩, hs, hit⟩ := hl
    refine codeAny_builtin (b := Builtin.«_heapq.heapify.sift») rfl ?_
    rw [Around.under_plainId (by decide +kernel)]
    unfold Builtin.«_heapq.heapify.sift»
    dsimp only
    refine wpAny_bind (wpAny_bind (wpAny_seqItems ho rfl (wpAny_pure ?_)))
    have at_ : ∀ k, k < n → ∃ v, its[k]? = some v ∧ It3 s.heap v (f k) := fun k hk => ⟨its[k]'(by omega), Array.getElem?_eq_getElem (by omega), hit k _ (Array.getElem?_eq_getElem (by omega))⟩
    simp only [Int.toNat_natCast, hs, if_true, Bool.false_eq_true, if_false]
    have quiet : ∀ args, (Code.builtin "_heapq.heapify.sift" args).quiet = true := plainId_quiet (by decide +kernel)
    cases down with
    | true =>
      have hd : Dn leq top pos n f := hd
      simp only [if_true] at hm ⊢
      by_cases c1 : pos < n / 2
      · rw [if_pos c1]
        have go : ∀ ch, 0 < ch → ch < n → (ch - 1) / 2 = pos → (∀ d, 0 < d → d < n → (d - 1) / 2 = pos → d ≠ ch → leq (f ch) (f d)) → ∀ h' its', HLx h' a its' n (swF f ch pos) → its'.toList.Perm its.toList → Heap.SameBut a s.heap h' →
            codeAny (model P w) A (Code.builtin "_heapq.heapify.sift" { pos := [.ref a, .bool false, .bool true, rawInt (ch : Int), rawInt (top : Int), result, rawInt after] }) R { heap := h', gens := s.gens, drawn := s.drawn, toks := s.toks, os := s.os } := fun ch h1 h2 h3 h4 h' its' g1 g2 g3 => by
          refine ih { heap := h', gens := s.gens, drawn := s.drawn, toks := s.toks, os := s.os } its' (swF f ch pos) true ch top after _ _ _ he ?_ g1 (hd.down h1 h2 h3 h4 (swF_swp (by omega))) fun h2 its2 f2 k1 k2 k3 k4 => hR h2 its2 f2 k1 (k2.trans g2) k3 (g3.trans k4)
          simp only [if_true]
          omega
        obtain ⟨vp, ep, xp⟩ := at_ pos hd.lt
        obtain ⟨vl, el, xl⟩ := at_ (2 * pos + 1) (by omega)
        by_cases c2 : 2 * pos + 1 + 1 < n
        · rw [if_pos c2]
          obtain ⟨vr, er, xr⟩ := at_ (2 * pos + 1 + 1) c2
          refine wpAny_bind (w_at el ?_)
          refine wpAny_bind (w_at er ?_)
          refine wpAny_bind ?_
          refine wpAny_bind (wpAny_holding (wpAny_bind (lt3_rc xl xr hu P w _ _ ?_)))
          refine wpAny_truthy_bool ?_
          refine wpAny_bind (wpAny_bind (wpAny_seqItems ho rfl (wpAny_pure ?_)))
          rw [if_neg (by simp [hs])]
          refine wpAny_pure ?_
          cases c3 : lt3 (f (2 * pos + 1)) (f (2 * pos + 1 + 1)) with
          | false =>
            rw [if_pos (by rfl)]
            refine wpAny_bind ?_
            refine wpAny_bind (wpAny_bind (wpAny_seqItems ho rfl (wpAny_pure ?_)))
            refine wpAny_bind (w_at er ?_)
            refine wpAny_bind (w_at ep ?_)
            refine wpAny_updateSeq ho rfl ?_ (by rw [hs]; exact hn) (by rw [Array.size_setIfInBounds, Array.size_setIfInBounds, hs]; exact Nat.le_succ_of_le hn)
            obtain ⟨g1, g2⟩ := hl0.swap (i := 2 * pos + 1 + 1) (j := pos) (by omega) er ep
            refine wpAny_pure ⟨quiet _, go (2 * pos + 1 + 1) (by omega) c2 (by omega) (fun d d1 d2 d3 d4 => ?_) _ _ g1 g2 (Heap.SameBut.update ..)⟩
            have : d = 2 * pos + 1 := by omega
            rw [this]
            exact c3
          | true =>
            rw [if_neg (by decide)]
            refine wpAny_bind ?_
            refine wpAny_bind (wpAny_bind (wpAny_seqItems ho rfl (wpAny_pure ?_)))
            refine wpAny_bind (w_at el ?_)
            refine wpAny_bind (w_at ep ?_)
            refine wpAny_updateSeq ho rfl ?_ (by rw [hs]; exact hn) (by rw [Array.size_setIfInBounds, Array.size_setIfInBounds, hs]; exact Nat.le_succ_of_le hn)
            obtain ⟨g1, g2⟩ := hl0.swap (i := 2 * pos + 1) (j := pos) (by omega) el ep
            refine wpAny_pure ⟨quiet _, go (2 * pos + 1) (by omega) (by omega) (by omega) (fun d d1 d2 d3 d4 => ?_) _ _ g1 g2 (Heap.SameBut.update ..)⟩
            have : d = 2 * pos + 1 + 1 := by omega
            rw [this]
            rcases pre3.total (f (2 * pos + 1)) (f (2 * pos + 1 + 1)) with h | h
            · exact h
            · rw [c3] at h
              cases h
        · rw [if_neg c2]
          refine wpAny_bind ?_
          refine wpAny_bind (wpAny_bind (wpAny_seqItems ho rfl (wpAny_pure ?_)))
          refine wpAny_bind (w_at el ?_)
          refine wpAny_bind (w_at ep ?_)
          refine wpAny_updateSeq ho rfl ?_ (by rw [hs]; exact hn) (by rw [Array.size_setIfInBounds, Array.size_setIfInBounds, hs]; exact Nat.le_succ_of_le hn)
          obtain ⟨g1, g2⟩ := hl0.swap (i := 2 * pos + 1) (j := pos) (by omega) el ep
          exact wpAny_pure ⟨quiet _, go (2 * pos + 1) (by omega) (by omega) (by omega) (fun d d1 d2 d3 d4 => by omega) _ _ g1 g2 (Heap.SameBut.update ..)⟩
      · rw [if_neg c1]
        refine wpAny_pure ⟨quiet _, ?_⟩
        refine ih s its f false pos top after _ _ _ he ?_ hl0 (hd.leaf (by omega)) hR
        simp only [Bool.false_eq_true, if_false]
        have := hd.lt
        omega
    | false =>
      have hd : Up leq top pos n f := hd
      simp only [Bool.false_eq_true, if_false] at hm ⊢
      have fin : HeapFrom leq top n f → wpAny (model P w) A.in1 (if after < 0 then ret result else again (Code.builtin "_heapq.heapify.sift" { pos := [.ref a, .bool false, .bool true, rawInt (after.toNat : Int), rawInt (after.toNat : Int), result, rawInt (after - 1)] })) (fun fin s' => match fin with | Fin.done f => R (Except.ok f) s' | Fin.again c' => c'.quiet = true ∧ codeAny (model P w) A c' R s') (fun e s' => R (Except.error e) s') s := fun hf => by
        by_cases c1 : after < 0
        · rw [if_pos c1]
          have t0 : top = 0 := by omega
          subst t0
          exact wpAny_pure (hR s.heap its f hl0 (.refl _) hf (Heap.SameBut.refl _ _))
        · rw [if_neg c1]
          refine wpAny_pure ⟨quiet _, ?_⟩
          have e1 : after.toNat + 1 = top := by omega
          have hlt := hd.lt
          have tp := hd.ds.le
          refine ih s its f true after.toNat after.toNat (after - 1) _ _ _ (by omega) ?_ hl0 (Dn.of (by rw [e1]; exact hf) (by omega)) hR
          simp only [if_true]
          have e2 : (after - 1 + 1).toNat + 1 = (after + 1).toNat := by omega
          have e3 : (after + 1).toNat * (2 * n + 2) = (after - 1 + 1).toNat * (2 * n + 2) + (2 * n + 2) := by
            rw [← e2, Nat.add_mul, Nat.one_mul]
          omega
      by_cases c1 : top < pos
      · rw [if_pos c1]
        have hlt := hd.lt
        obtain ⟨vx, ex, xx⟩ := at_ pos hlt
        obtain ⟨vq, eq, xq⟩ := at_ ((pos - 1) / 2) (by omega)
        refine wpAny_bind (w_at ex ?_)
        refine wpAny_bind (w_at eq ?_)
        refine wpAny_bind ?_
        refine wpAny_bind (wpAny_holding (wpAny_bind (lt3_rc xx xq hu P w _ _ ?_)))
        refine wpAny_truthy_bool ?_
        refine wpAny_bind (wpAny_bind (wpAny_seqItems ho rfl (wpAny_pure ?_)))
        rw [if_neg (by simp [hs])]
        refine wpAny_pure ?_
        cases c3 : lt3 (f pos) (f ((pos - 1) / 2)) with
        | true =>
          rw [if_pos (by rfl)]
          refine wpAny_bind ?_
          refine wpAny_bind (wpAny_bind (wpAny_seqItems ho rfl (wpAny_pure ?_)))
          refine wpAny_bind (w_at eq ?_)
          refine wpAny_bind (w_at ex ?_)
          refine wpAny_updateSeq ho rfl ?_ (by rw [hs]; exact hn) (by rw [Array.size_setIfInBounds, Array.size_setIfInBounds, hs]; exact Nat.le_succ_of_le hn)
          obtain ⟨g1, g2⟩ := hl0.swap (i := (pos - 1) / 2) (j := pos) (by omega) eq ex
          refine wpAny_pure ⟨quiet _, ?_⟩
          have le1 : leq (f pos) (f ((pos - 1) / 2)) := by
            rcases pre3.total (f pos) (f ((pos - 1) / 2)) with h | h
            · exact h
            · rw [c3] at h
              cases h
          refine ih _ _ (swF f ((pos - 1) / 2) pos) false ((pos - 1) / 2) top after _ _ _ he ?_ g1 (hd.up pre3 c1 le1 (swF_swp (by omega))) fun h2 its2 f2 k1 k2 k3 k4 => hR h2 its2 f2 k1 (k2.trans g2) k3 ((Heap.SameBut.update ..).trans k4)
          simp only [Bool.false_eq_true, if_false]
          omega
        | false =>
          rw [if_neg (by decide)]
          exact fin (hd.done c3)
      · rw [if_neg c1]
        exact fin (hd.top c1)
end
end WH
namespace WH
open PySem PySem.Spec PyProof.Rows L2
section
variable {P : Program} {w : World} {A : Around} {E : Value → Shared → Prop} {s : Shared} {a : Addr} {x y : I3} {v u : Value}
theorem check_fn {id : String} {args : Args} (hk : builtinKind id = none) (ha : argsOk id args) : checkBuiltinCall id args = pure () := by
  unfold checkBuiltinCall
  unfold argsOk at ha
  rw [hk]
  generalize splitId id = z
  cases h : Manifest.signature? id with
  | none => cases z <;> rfl
  | some sig =>
    rw [h] at ha
    cases z <;> exact ha
theorem sift_quiet (args : Args) : (Code.builtin "_heapq.heapify.sift" args).quiet = true := plainId_quiet (by decide +kernel) args
theorem desc0 : ∀ (m k : Nat), k ≤ m → Desc 0 k
  | _, 0, _ => .refl
  | 0, k + 1, h => absurd h (Nat.not_succ_le_zero _)
  | m + 1, k + 1, h => .step (Nat.succ_pos _) (desc0 m _ (by omega))
theorem list_is {its : Array Value} {c : Nat} {Q : Bool → Shared → Prop} (ho : s.heap.get? a = some (seqObj "list" its c)) (q : Q true s) : wpAny (model P w) A (PySem.isInstance (.ref a) (.type "list")) Q E s :=
  wpAny_isInstance (T := "list") ⟨_, ho, rfl⟩ F.sub_list_list q
theorem heapify_ok (hu : A.in1.units < cLine) {n : Nat} (hn : n ≤ 2500) {its : Array Value} {f : Nat → I3} (hl : HLx s.heap a its n f) {Q : Value → Shared → Prop}
    (q : ∀ h' its' f', HLx h' a its' n f' → its'.toList.Perm its.toList → HeapFrom leq 0 n f' → Heap.SameBut a s.heap h' → Q .none { heap := h', gens := s.gens, drawn := s.drawn, toks := s.toks, os := s.os }) :
    wpAny (model P w) A (call (.builtin "_heapq.heapify") [.ref a]) Q E s := by
  have hl0 := hl
  obtain ⟨⟨c, ho⟩, hs, hit⟩ := hl
  refine wpAny_call (codeAny_call_builtin (b := Builtin.«_heapq.heapify») (by decide +kernel) rfl ?_)
  rw [check_fn rfl rfl]
  refine wpAny_pure ?_
  unfold Builtin.«_heapq.heapify»
  refine wpAny_bind (wpAny_bind (wpAny_bind (wpAny_pure (wpAny_pure ?_))))
  refine wpAny_bind (wpAny_bind (list_is ho ?_))
  rw [if_pos rfl]
  refine wpAny_pure (wpAny_pure ?_)
  refine wpAny_bind (wpAny_bind (wpAny_seqItems ho rfl (wpAny_pure ?_)))
  rw [if_neg (by rw [hs]; omega)]
  simp only [hs]
  by_cases c1 : n < 2
  · rw [if_pos c1]
    exact wpAny_pure (q s.heap its f hl0 (.refl _) (HeapFrom.half (by omega)) (Heap.SameBut.refl _ _))
  · rw [if_neg c1]
    refine wpAny_pure ⟨sift_quiet _, ?_⟩
    refine sift_ok hu n (Nat.le_trans hn (by decide)) .none _ s its f true (n / 2 - 1) (n / 2 - 1) _ _ _ _ (by omega) (Nat.lt_succ_self _) hl0 (Dn.of (HeapFrom.half (by omega)) (by omega)) fun h' its' f' k1 k2 k3 k4 => q h' its' f' k1 k2 k3 k4
/-- behind the list's change, things and places -/
theorem HLx.change {h : Heap} {its its' : Array Value} {n n' : Nat} {f f' : Nat → I3} (hl : HLx h a its n f) {F : Array Value → Array Value} (e : F its = its') (hn : its'.size = n') (hf : ∀ k v, its'[k]? = some v → It3 h v (f' k)) : HLx (h.update a (Obj.mapSeq F)) a its' n' f' := by
  obtain ⟨⟨c, ho⟩, hs, hit⟩ := hl
  subst e
  exact ⟨⟨_, Heap.get?_update_self _ ho rfl⟩, hn, fun k v hk => (hf k v hk).upd ho⟩
theorem heappush_ok (hu : A.in1.units < cLine) {n : Nat} (hn : n ≤ 1000000) {its : Array Value} {f : Nat → I3} (hl : HLx s.heap a its n f) (hh : HeapFrom leq 0 n f) (hx : It3 s.heap v x) {Q : Value → Shared → Prop}
    (q : ∀ h' its' f', HLx h' a its' (n + 1) f' → its'.toList.Perm (its.toList ++ [v]) → HeapFrom leq 0 (n + 1) f' → Heap.SameBut a s.heap h' → Q .none { heap := h', gens := s.gens, drawn := s.drawn, toks := s.toks, os := s.os }) :
    wpAny (model P w) A (call (.builtin "_heapq.heappush") [.ref a, v]) Q E s := by
  have hl0 := hl
  obtain ⟨⟨c, ho⟩, hs, hit⟩ := hl
  have hsl : 1000002 ≤ sizeLine := by decide
  refine wpAny_call (codeAny_call_builtin (b := Builtin.«_heapq.heappush») (by decide +kernel) rfl ?_)
  rw [check_fn rfl rfl]
  refine wpAny_pure ?_
  unfold Builtin.«_heapq.heappush»
  refine wpAny_bind (wpAny_bind (wpAny_pure (wpAny_bind (wpAny_pure (wpAny_bind (wpAny_bind (list_is ho ?_)))))))
  rw [if_pos rfl]
  refine wpAny_pure (wpAny_pure ?_)
  refine wpAny_bind ?_
  refine wpAny_updateSeq ho rfl ?_ (by rw [hs]; omega) (by rw [Array.size_push, hs]; omega)
  have sz : (its.push v).size = n + 1 := by rw [Array.size_push, hs]
  have hl1 : HLx (s.heap.update a (Obj.mapSeq fun x => x.push v)) a (its.push v) (n + 1) (fun k => if k = n then x else f k) := hl0.change rfl sz fun k z hk => by
    rw [Array.getElem?_push] at hk
    by_cases e : k = its.size
    · rw [if_pos e] at hk
      obtain rfl := Option.some.inj hk
      rw [if_pos (by omega)]
      exact hx
    · rw [if_neg e] at hk
      rw [if_neg (by omega)]
      exact hit k z hk
  obtain ⟨c', ho'⟩ := hl1.ob
  refine wpAny_bind (wpAny_bind (wpAny_seqItems ho' rfl (wpAny_pure ?_)))
  refine wpAny_pure ⟨sift_quiet _, ?_⟩
  rw [show (its.push v).size - 1 = n by omega]
  refine sift_ok hu (n + 1) (by omega) .none _ { heap := s.heap.update a (Obj.mapSeq fun x => x.push v), gens := s.gens, drawn := s.drawn, toks := s.toks, os := s.os } (its.push v) _ false n 0 (-1) _ _ _ rfl (Nat.lt_succ_self _) hl1 ?_ fun h' its' f' k1 k2 k3 k4 => q h' its' f' k1 (by rw [Array.toList_push] at k2; exact k2) k3 ((Heap.SameBut.update ..).trans k4)
  refine ⟨fun i h1 h2 h3 h4 => ?_, fun h1 d h2 h3 h4 => by omega, desc0 n n (Nat.le_refl _), Nat.lt_succ_self _⟩
  rw [if_neg h4, if_neg (by omega)]
  exact hh i h1 (by omega) h3
theorem heappop_ok (hu : A.in1.units < cLine) {n : Nat} (hn : n ≤ 1000000) {its : Array Value} {f : Nat → I3} (hl : HLx s.heap a its (n + 1) f) (hh : HeapFrom leq 0 (n + 1) f) {Q : Value → Shared → Prop}
    (q : ∀ h' its' f' v, HLx h' a its' n f' → (v :: its'.toList).Perm its.toList → its[0]? = some v → HeapFrom leq 0 n f' → Heap.SameBut a s.heap h' → Q v { heap := h', gens := s.gens, drawn := s.drawn, toks := s.toks, os := s.os }) :
    wpAny (model P w) A (call (.builtin "_heapq.heappop") [.ref a]) Q E s := by
  have hl0 := hl
  obtain ⟨⟨c, ho⟩, hs, hit⟩ := hl
  have hsl : 1000002 ≤ sizeLine := by decide
  refine wpAny_call (codeAny_call_builtin (b := Builtin.«_heapq.heappop») (by decide +kernel) rfl ?_)
  rw [check_fn rfl rfl]
  refine wpAny_pure ?_
  unfold Builtin.«_heapq.heappop»
  refine wpAny_bind (wpAny_bind (wpAny_bind (wpAny_pure (wpAny_pure ?_))))
  refine wpAny_bind (wpAny_bind (list_is ho ?_))
  rw [if_pos rfl]
  refine wpAny_pure (wpAny_pure ?_)
  refine wpAny_bind (wpAny_bind (wpAny_seqItems ho rfl (wpAny_pure ?_)))
  have hb : its.back? = some (its[n]'(by omega)) := by
    rw [Array.back?_eq_getElem?, show its.size - 1 = n by omega]
    exact Array.getElem?_eq_getElem _
  have eL : its.toList = its.toList.dropLast ++ [its[n]'(by omega)] := by
    have h0 : its.toList ≠ [] := fun z => by
      have := congrArg List.length z
      rw [Array.length_toList, hs] at this
      cases this
    have h1 := List.dropLast_concat_getLast h0
    rw [List.getLast_eq_getElem] at h1
    rw [← h1]
    simp [hs]
  generalize its[n]'(by omega) = last at hb eL
  have hlast : It3 s.heap last (f n) := hit n last (by
    rw [Array.back?_eq_getElem?, hs, Nat.add_sub_cancel] at hb
    exact hb)
  rw [hb]
  dsimp only
  have ePop : its.pop.toList = its.toList.dropLast := by simp
  have szP : its.pop.size = n := by rw [Array.size_pop, hs, Nat.add_sub_cancel]
  have hl1 : HLx (s.heap.update a (Obj.mapSeq fun x => x.pop)) a its.pop n f := hl0.change rfl szP fun k z hk => hit k z (by
    rw [← Array.getElem?_toList] at hk ⊢
    rw [eL, List.getElem?_append_left (by
      have := (List.getElem?_eq_some_iff.mp hk).1
      rwa [ePop] at this), ← ePop]
    exact hk)
  refine wpAny_bind ?_
  refine wpAny_updateSeq ho rfl ?_ (by rw [hs]; omega) (by rw [szP]; omega)
  by_cases c1 : n = 0
  · subst c1
    rw [if_pos (by rw [hs]; rfl)]
    have e0 : its.toList.dropLast = [] := List.eq_nil_of_length_eq_zero (by rw [List.length_dropLast, Array.length_toList, hs])
    refine wpAny_pure (q _ its.pop f last hl1 ?_ ?_ (HeapFrom.half (by omega)) (Heap.SameBut.update ..))
    · rw [ePop, eL, e0]
      exact .refl _
    · rw [← Array.getElem?_toList, eL, e0]
      rfl
  · rw [if_neg (by rw [hs]; simpa using c1)]
    obtain ⟨v0, mid, em⟩ : ∃ v0 mid, its.toList.dropLast = v0 :: mid := by
      cases h : its.toList.dropLast with
      | nil =>
        have := congrArg List.length h
        rw [List.length_dropLast, Array.length_toList, hs] at this
        exact absurd this (by simpa using c1)
      | cons v0 mid => exact ⟨v0, mid, rfl⟩
    have e0 : its[0]? = some v0 := by
      rw [← Array.getElem?_toList, eL, em]
      rfl
    refine wpAny_bind (w_at e0 ?_)
    obtain ⟨c', ho'⟩ := hl1.ob
    refine wpAny_bind ?_
    refine wpAny_updateSeq ho' rfl ?_ (by rw [szP]; omega) (by rw [Array.size_setIfInBounds, szP]; omega)
    have lastUp : It3 (s.heap.update a (Obj.mapSeq fun x => x.pop)) last (f n) := hlast.upd ho
    have hl2 := hl1.change (F := fun x => x.setIfInBounds 0 last) (f' := fun k => if k = 0 then f n else f k) rfl (show _ = n by rw [Array.size_setIfInBounds, szP]) fun k z hk => by
      rw [Array.getElem?_setIfInBounds] at hk
      by_cases e : 0 = k
      · subst e
        rw [if_pos rfl, if_pos (by rw [szP]; omega)] at hk
        obtain rfl := Option.some.inj hk
        rw [if_pos rfl]
        exact lastUp
      · rw [if_neg e] at hk
        rw [if_neg (Ne.symm e)]
        exact hl1.it k z hk
    refine wpAny_pure ⟨sift_quiet _, ?_⟩
    refine sift_ok hu n (by omega) v0 _ { heap := (s.heap.update a (Obj.mapSeq fun x => x.pop)).update a (Obj.mapSeq fun x => x.setIfInBounds 0 last), gens := s.gens, drawn := s.drawn, toks := s.toks, os := s.os } (its.pop.setIfInBounds 0 last) _ true 0 0 (-1) _ _ _ rfl (Nat.lt_succ_self _) hl2 ?_ fun h' its' f' k1 k2 k3 k4 => q h' its' f' v0 k1 ?_ e0 k3 (((Heap.SameBut.update ..).trans (Heap.SameBut.update ..)).trans k4)
    · refine ⟨fun i h1 h2 h3 h4 h5 => ?_, fun z => absurd z (Nat.lt_irrefl _), .refl, by omega⟩
      rw [if_neg h4, if_neg h5]
      exact hh i h1 (by omega) h3
    · rw [Array.toList_setIfInBounds, ePop, em] at k2
      rw [eL, em]
      have k2 : its'.toList.Perm (last :: mid) := k2
      have : (last :: mid).Perm (mid ++ [last]) := List.perm_append_comm (l₁ := [last]) (l₂ := mid)
      exact (k2.trans this).cons v0
end
end WH
namespace WH
open PySem PySem.Spec PyProof.Rows L2
/-! ### heapq over the hand layer -/
theorem paired_get {α β : Type} {R : α → β → Prop} : ∀ {us : List α} {vs : List β}, Paired R us vs → ∀ {k : Nat} {v : β}, vs[k]? = some v → ∃ u, us[k]? = some u ∧ R u v
  | _, _, .nil, k, v, h => by simp at h
  | _, _, .cons r p, 0, v, h => by
    obtain rfl := Option.some.inj h
    exact ⟨_, rfl, r⟩
  | _, _, .cons r p, k + 1, v, h => paired_get p h
theorem paired_len {α β : Type} {R : α → β → Prop} : ∀ {us : List α} {vs : List β}, Paired R us vs → us.length = vs.length
  | _, _, .nil => rfl
  | _, _, .cons r p => congrArg (· + 1) (paired_len p)
theorem paired_perm {α β : Type} {R : α → β → Prop} {vs' vs : List β} (p : vs'.Perm vs) : ∀ {us : List α}, Paired R us vs → ∃ us', Paired R us' vs' ∧ us'.Perm us := by
  induction p with
  | nil => intro us h; exact ⟨us, h, .refl _⟩
  | cons v _ ih =>
    intro us h
    cases h with
    | cons r h =>
      obtain ⟨ys, h1, h2⟩ := ih h
      exact ⟨_, .cons r h1, h2.cons _⟩
  | swap v u l =>
    intro us h
    cases h with
    | cons r h =>
      cases h with
      | cons r2 h => exact ⟨_, .cons r2 (.cons r h), .swap _ _ _⟩
  | trans _ _ ih1 ih2 =>
    intro us h
    obtain ⟨ys, h1, h2⟩ := ih2 h
    obtain ⟨xs, h3, h4⟩ := ih1 h1
    exact ⟨xs, h3, h4.trans h2⟩
/-- an item, as the hand layer has it -/
def Tu3 (K : PySem.W.Frag) (H : Hp) (u : V) (x : I3) : Prop := ∃ p, u = .ref p ∧ SqT K H p [.int x.1, .str x.2.1, .str x.2.2]
def HeapL (xs : List I3) : Prop := ∀ i, 0 < i → ∀ y x, xs[(i - 1) / 2]? = some y → xs[i]? = some x → leq y x
theorem it3_of {X : Cx} {pins : List (Addr × Obj)} {σ : L2.St} {H : Hp} {s : Shared} {u : V} {v : Value} {x : I3} (I : L2.Inv X pins σ H s) (h : Tu3 X.K H u x) (r : L2.RelV u v) : It3 s.heap v x := by
  obtain ⟨p, rfl, h⟩ := h
  cases r
  obtain ⟨its, r, hp, _⟩ := I.tuple h
  cases r with
  | cons r1 r =>
    cases r with
    | cons r2 r =>
      cases r with
      | cons r3 r =>
        cases r
        obtain ⟨t1, rfl⟩ := r1
        obtain ⟨t2, rfl⟩ := r2
        obtain ⟨t3, rfl⟩ := r3
        exact ⟨p, t1, t2, t3, rfl, hp⟩
theorem it3_fun {h : Heap} {v : Value} {x y : I3} (hx : It3 h v x) (hy : It3 h v y) : x = y := by
  obtain ⟨p, i, b, c, rfl, o, h1, _, n, h2⟩ := hx
  obtain ⟨q, i', b', c', e, o', h3, _, n', h4⟩ := hy
  cases e
  rw [h1] at h3
  obtain rfl := Option.some.inj h3
  rw [h2] at h4
  obtain ⟨x1, x2, x3⟩ := x
  obtain ⟨y1, y2, y3⟩ := y
  simp only [Data.seq.injEq, Array.mk.injEq, List.cons.injEq, Value.int.injEq, Value.str.injEq] at h4
  obtain ⟨⟨⟨a1, _⟩, ⟨a2, _⟩, ⟨a3, _⟩, _⟩, _⟩ := h4
  rw [a1, a2, a3]
section
variable {X : Cx}
def rHeapify (K : PySem.W.Frag) : List V → Hp → VK → Prop := fun vs H Q => ∃ (a : Addr) (us : List V) (xs : List I3), vs = [.ref a] ∧ H a = some (.lst us) ∧ us.length ≤ 2500 ∧ Paired (Tu3 K H) us xs ∧
  ∀ us' xs', us'.Perm us → Paired (Tu3 K H) us' xs' → HeapL xs' → (∀ (k : Nat) (z : V) (y : I3), us'[k]? = some z → Tu3 K H z y → xs'[k]? = some y) → Q .non (upd H a (.lst us'))
/-- what a list holds behind the change -/
theorem back_of {pins : List (Addr × Obj)} {σ : L2.St} {H : Hp} {s : Shared} {h' : Heap} {a : Addr} {us us0 : List V} {its : Array Value} {n : Nat} {f : Nat → I3} (I : L2.Inv X pins σ H s) (ha : H a = some (.lst us0)) (hv : Vals us its.toList)
    (hx : ∀ u ∈ us, ∃ x, Tu3 X.K H u x) (hl : HLx h' a its n f) (sb : Heap.SameBut a s.heap h') (hh : HeapFrom leq 0 n f) : Paired (Tu3 X.K H) us ((List.range n).map f) ∧ HeapL ((List.range n).map f) ∧ ∀ (k : Nat) (u : V) (x : I3), us[k]? = some u → Tu3 X.K H u x → ((List.range n).map f)[k]? = some x := by
  have hlen : us.length = n := by
    have h0 := paired_len hv
    have h1 : its.toList.length = n := by rw [Array.length_toList]; exact hl.sz
    rw [h1] at h0
    exact h0
  have key2 : ∀ (k : Nat) (u : V) (x : I3), us[k]? = some u → Tu3 X.K H u x → f k = x := fun k u x hk tx => by
    have lt := (List.getElem?_eq_some_iff.mp hk).1
    obtain ⟨v, hv'⟩ : ∃ v, its.toList[k]? = some v := ⟨_, List.getElem?_eq_getElem (by rw [Array.length_toList, hl.sz]; omega)⟩
    obtain ⟨u', hu', r⟩ := paired_get hv hv'
    rw [hk] at hu'
    obtain rfl := Option.some.inj hu'
    have i1 := it3_of I tx r
    have i2 := hl.it k v (by rwa [← Array.getElem?_toList])
    obtain ⟨c, ho⟩ := hl.ob
    have ne := i2.ne ho
    have i3 : It3 h' v x := by
      obtain ⟨p, b1, b2, b3, rfl, o, g1, g2⟩ := i1
      exact ⟨p, b1, b2, b3, rfl, o, (sb.2 p (fun e => ne (by rw [e]))).trans g1, g2⟩
    exact it3_fun i2 i3
  have key : ∀ k u, us[k]? = some u → Tu3 X.K H u (f k) := fun k u hk => by
    obtain ⟨x, tx⟩ := hx u (List.mem_of_getElem? hk)
    rw [key2 k u x hk tx]
    exact tx
  refine ⟨?_, fun i h0 y x h1 h2 => ?_, fun k u x hk tx => ?_⟩
  · have gen : ∀ (us : List V) (g : Nat → I3) (m : Nat), us.length = m → (∀ k u, us[k]? = some u → Tu3 X.K H u (g k)) → Paired (Tu3 X.K H) us ((List.range m).map g) := by
      intro us
      induction us with
      | nil =>
        intro g m e _
        subst e
        exact .nil
      | cons u us ih =>
        intro g m e hk
        subst e
        rw [List.length_cons, List.range_succ_eq_map, List.map_cons, List.map_map]
        exact .cons (hk 0 u rfl) (ih (g ∘ Nat.succ) us.length rfl fun k u' h => hk (k + 1) u' h)
    exact gen us f n hlen key
  · obtain ⟨l1, e1⟩ := List.getElem?_eq_some_iff.mp h1
    obtain ⟨l2, e2⟩ := List.getElem?_eq_some_iff.mp h2
    rw [List.length_map, List.length_range] at l1 l2
    have := hh i h0 l2 (Nat.zero_le _)
    rw [← e1, ← e2]
    simpa using this
  · have lt := (List.getElem?_eq_some_iff.mp hk).1
    rw [List.getElem?_map, List.getElem?_range (by omega), ← key2 k u x hk tx]
    rfl
theorem cr_heapify (hu : X.A.in1.units < cLine) : CallR X (.builtin "_heapq.heapify") (rHeapify X.K) := fun pins s σ H vs us0 Q I r h => by
  obtain ⟨a, us, xs, rfl, ha, hn, hp, q⟩ := h
  rw [Vals.ref1 r]
  obtain ⟨hsz, its, c, hv, ho⟩ := I.hok a _ ha
  have hlen := paired_len hv
  have hl : HLx s.heap a its.toArray us.length (fun k => xs.getD k (0, "", "")) := ⟨⟨c, ho⟩, by simpa using hlen.symm, fun k v hk => by
    have hk : its[k]? = some v := by simpa using hk
    obtain ⟨u, hu', rv⟩ := paired_get hv hk
    have lt := (List.getElem?_eq_some_iff.mp hu').1
    obtain ⟨x, hx⟩ : ∃ x, xs[k]? = some x := ⟨_, List.getElem?_eq_getElem (by rw [← paired_len hp]; exact lt)⟩
    obtain ⟨u2, hu2, t⟩ := paired_get hp hx
    rw [hu'] at hu2
    obtain rfl := Option.some.inj hu2
    rw [List.getD_eq_getElem?_getD, hx]
    exact it3_of I t rv⟩
  refine heapify_ok hu hn hl fun h' its' f' k1 k2 k3 k4 => ?_
  obtain ⟨us', p1, p2⟩ := paired_perm (vs' := its'.toList) (by simpa using k2) hv
  have mem : ∀ u ∈ us', ∃ x, Tu3 X.K H u x := fun u hm => by
    obtain ⟨k, hk⟩ := List.getElem?_of_mem (p2.mem_iff.mp hm)
    have lt := (List.getElem?_eq_some_iff.mp hk).1
    obtain ⟨x, hx⟩ : ∃ x, xs[k]? = some x := ⟨_, List.getElem?_eq_getElem (by rw [← paired_len hp]; exact lt)⟩
    obtain ⟨u2, hu2, t⟩ := paired_get hp hx
    rw [hk] at hu2
    obtain rfl := Option.some.inj hu2
    exact ⟨x, t⟩
  obtain ⟨b1, b2, b3⟩ := back_of I ha p1 mem k1 k4 k3
  obtain ⟨c', ho'⟩ := k1.ob
  have ob : ObjOk X.prog X.w (upd H a (.lst us')) h' a (.lst us') := ⟨by rw [p2.length_eq]; exact hsz, its'.toList, c', p1, by simpa using ho'⟩
  exact ⟨.non, _, Inv.write I (by rw [ha]; trivial) (.inl rfl) (fun b u hb hu => (k4.2 b hb).trans hu) ⟨_, ho'⟩ ob, rfl, q us' _ p2 b1 b2 b3⟩
theorem hlx_of {pins : List (Addr × Obj)} {σ : L2.St} {H : Hp} {s : Shared} {a : Addr} {us : List V} {xs : List I3} {its : List Value} {c : Nat} (I : L2.Inv X pins σ H s) (hv : Vals us its) (ho : s.heap.get? a = some (seqObj "list" its.toArray c)) (hp : Paired (Tu3 X.K H) us xs) : HLx s.heap a its.toArray us.length (fun k => xs.getD k (0, "", "")) :=
  ⟨⟨c, ho⟩, by simpa using (paired_len hv).symm, fun k v hk => by
    have hk : its[k]? = some v := by simpa using hk
    obtain ⟨u, hu', rv⟩ := paired_get hv hk
    have lt := (List.getElem?_eq_some_iff.mp hu').1
    obtain ⟨x, hx⟩ : ∃ x, xs[k]? = some x := ⟨_, List.getElem?_eq_getElem (by rw [← paired_len hp]; exact lt)⟩
    obtain ⟨u2, hu2, t⟩ := paired_get hp hx
    rw [hu'] at hu2
    obtain rfl := Option.some.inj hu2
    rw [List.getD_eq_getElem?_getD, hx]
    exact it3_of I t rv⟩
theorem mem_of {K : PySem.W.Frag} {H : Hp} {us : List V} {xs : List I3} (hp : Paired (Tu3 K H) us xs) : ∀ u ∈ us, ∃ x, Tu3 K H u x := fun u hm => by
  obtain ⟨k, hk⟩ := List.getElem?_of_mem hm
  have lt := (List.getElem?_eq_some_iff.mp hk).1
  obtain ⟨x, hx⟩ : ∃ x, xs[k]? = some x := ⟨_, List.getElem?_eq_getElem (by rw [← paired_len hp]; exact lt)⟩
  obtain ⟨u2, hu2, t⟩ := paired_get hp hx
  rw [hk] at hu2
  obtain rfl := Option.some.inj hu2
  exact ⟨x, t⟩
theorem from_of {xs : List I3} (h : HeapL xs) : HeapFrom leq 0 xs.length (fun k => xs.getD k (0, "", "")) := fun i h1 h2 _ => by
  have e1 : xs[(i - 1) / 2]? = some (xs[(i - 1) / 2]'(by omega)) := List.getElem?_eq_getElem _
  have e2 : xs[i]? = some (xs[i]'h2) := List.getElem?_eq_getElem _
  have := h i h1 _ _ e1 e2
  show leq (xs.getD ((i - 1) / 2) (0, "", "")) (xs.getD i (0, "", ""))
  rw [List.getD_eq_getElem?_getD, List.getD_eq_getElem?_getD, e1, e2]
  exact this
def rHeappush (K : PySem.W.Frag) : List V → Hp → VK → Prop := fun vs H Q => ∃ (a : Addr) (u : V) (x : I3) (us : List V) (xs : List I3), vs = [.ref a, u] ∧ H a = some (.lst us) ∧ us.length ≤ 1000000 ∧ Paired (Tu3 K H) us xs ∧ HeapL xs ∧ Tu3 K H u x ∧
  ∀ us' xs', us'.Perm (us ++ [u]) → Paired (Tu3 K H) us' xs' → HeapL xs' → (∀ (k : Nat) (z : V) (y : I3), us'[k]? = some z → Tu3 K H z y → xs'[k]? = some y) → Q .non (upd H a (.lst us'))
theorem paired_app {α β : Type} {R : α → β → Prop} : ∀ {us : List α} {vs : List β} {us2 : List α} {vs2 : List β}, Paired R us vs → Paired R us2 vs2 → Paired R (us ++ us2) (vs ++ vs2)
  | _, _, _, _, .nil, h => h
  | _, _, _, _, .cons r p, h => .cons r (paired_app p h)
theorem cr_heappush (hu : X.A.in1.units < cLine) : CallR X (.builtin "_heapq.heappush") (rHeappush X.K) := fun pins s σ H vs us0 Q I r h => by
  obtain ⟨a, u, x, us, xs, rfl, ha, hn, hp, hh, hx, q⟩ := h
  obtain ⟨w1, w2, rfl, r1, r2⟩ : ∃ w1 w2, us0 = [w1, w2] ∧ L2.RelV (.ref a) w1 ∧ L2.RelV u w2 := by
    cases r with
    | cons r1 r =>
      cases r with
      | cons r2 r =>
        cases r
        exact ⟨_, _, rfl, r1, r2⟩
  cases r1
  obtain ⟨hsz, its, c, hv, ho⟩ := I.hok a _ ha
  have hl := hlx_of I hv ho hp
  have hpl := paired_len hp
  have hf := from_of hh
  rw [← hpl] at hf
  refine heappush_ok hu hn hl hf (it3_of I hx r2) fun h' its' f' k1 k2 k3 k4 => ?_
  have hv2 : Vals (us ++ [u]) (its ++ [w2]) := paired_app hv (.cons r2 .nil)
  obtain ⟨us', p1, p2⟩ := paired_perm (vs' := its'.toList) (by simpa using k2) hv2
  have mem : ∀ z ∈ us', ∃ x, Tu3 X.K H z x := fun z hm => by
    rcases List.mem_append.mp (p2.mem_iff.mp hm) with g | g
    · exact mem_of hp z g
    · have g : z = u := by simpa using g
      rw [g]
      exact ⟨x, hx⟩
  obtain ⟨b1, b2, b3⟩ := back_of I ha p1 mem k1 k4 k3
  obtain ⟨c', ho'⟩ := k1.ob
  have l2 : us'.length = us.length + 1 := by rw [p2.length_eq, List.length_append, List.length_singleton]
  have hsl : 1000002 ≤ sizeLine := by decide
  have ob : ObjOk X.prog X.w (upd H a (.lst us')) h' a (.lst us') := ⟨by rw [l2]; omega, its'.toList, c', p1, by simpa using ho'⟩
  exact ⟨.non, _, Inv.write I (by rw [ha]; trivial) (.inl rfl) (fun b u hb hu => (k4.2 b hb).trans hu) ⟨_, ho'⟩ ob, rfl, q us' _ p2 b1 b2 b3⟩
def rHeappop (K : PySem.W.Frag) : List V → Hp → VK → Prop := fun vs H Q => ∃ (a : Addr) (us : List V) (xs : List I3), vs = [.ref a] ∧ H a = some (.lst us) ∧ us ≠ [] ∧ us.length ≤ 1000000 ∧ Paired (Tu3 K H) us xs ∧ HeapL xs ∧
  ((∀ z x y, Tu3 K H z x → Tu3 K H z y → x = y) → ∀ u us' xs', us[0]? = some u → (u :: us').Perm us → Paired (Tu3 K H) us' xs' → HeapL xs' → (∀ (k : Nat) (z : V) (y : I3), us'[k]? = some z → Tu3 K H z y → xs'[k]? = some y) → Q u (upd H a (.lst us')))
theorem cr_heappop (hu : X.A.in1.units < cLine) : CallR X (.builtin "_heapq.heappop") (rHeappop X.K) := fun pins s σ H vs us0 Q I r h => by
  obtain ⟨a, us, xs, rfl, ha, ne, hn, hp, hh, q⟩ := h
  rw [Vals.ref1 r]
  obtain ⟨hsz, its, c, hv, ho⟩ := I.hok a _ ha
  have hl := hlx_of I hv ho hp
  have hpl := paired_len hp
  have hf := from_of hh
  rw [← hpl] at hf
  obtain ⟨n, en⟩ : ∃ n, us.length = n + 1 := by
    cases us with
    | nil => exact absurd rfl ne
    | cons _ t => exact ⟨t.length, rfl⟩
  rw [en] at hl hf
  refine heappop_ok hu (by omega) hl hf fun h' its' f' v k1 k2 k0 k3 k4 => ?_
  have k0 : its[0]? = some v := by simpa using k0
  obtain ⟨us2, p1, p2⟩ := paired_perm (vs' := v :: its'.toList) (by simpa using k2) hv
  cases p1 with
  | @cons u2 _ us' _ rv p1 =>
    obtain ⟨u, hu0, ru⟩ := paired_get hv k0
    obtain ⟨x, tx⟩ := mem_of hp u (List.mem_of_getElem? hu0)
    obtain ⟨x2, tx2⟩ := mem_of hp u2 (p2.mem_iff.mp List.mem_cons_self)
    have e : u2 = u := by
      obtain ⟨q1, rfl, _⟩ := tx
      obtain ⟨q2, rfl, _⟩ := tx2
      cases ru
      cases rv
      rfl
    subst e
    have uq : ∀ z x y, Tu3 X.K H z x → Tu3 X.K H z y → x = y := by
      rintro z ⟨x1, x2, x3⟩ ⟨y1, y2, y3⟩ ⟨p, rfl, h1⟩ ⟨p', e, h2⟩
      obtain rfl : p = p' := by cases e; rfl
      have e2 := I.tuple_inj h1 h2
      dsimp only at e2
      injection e2 with q1 e2
      injection e2 with q2 e2
      injection e2 with q3 _
      injection q1 with q1
      injection q2 with q2
      injection q3 with q3
      rw [q1, q2, q3]
    have mem : ∀ z ∈ us', ∃ x, Tu3 X.K H z x := fun z hm => mem_of hp z (p2.mem_iff.mp (List.mem_cons_of_mem _ hm))
    obtain ⟨b1, b2, b3⟩ := back_of I ha p1 mem k1 k4 k3
    obtain ⟨c', ho'⟩ := k1.ob
    have l2 : us'.length + 1 = us.length := by
      have := p2.length_eq
      rwa [List.length_cons] at this
    have ob : ObjOk X.prog X.w (upd H a (.lst us')) h' a (.lst us') := ⟨by omega, its'.toList, c', p1, by simpa using ho'⟩
    exact ⟨u2, _, Inv.write I (by rw [ha]; trivial) (.inl rfl) (fun b u hb hu => (k4.2 b hb).trans hu) ⟨_, ho'⟩ ob, rv, q uq u2 us' _ hu0 p2 b1 b2 b3⟩
end
end WH
namespace WH
open PySem PySem.Spec PyProof.Rows L2
/-! ### a text, so many times -/
def repS (z : Str) (m : Nat) : Str := ⟨(List.replicate m z.cps.toList).flatten.toArray⟩
theorem repS_len (z : Str) (m : Nat) : (repS z m).length = m * z.length := by
  show (List.replicate m z.cps.toList).flatten.toArray.size = m * z.cps.size
  simp
theorem foldl_arr (x : Array Nat) (m : Nat) : ∀ acc : Array Nat, ((List.replicate m x).foldl (· ++ ·) acc).toList = acc.toList ++ (List.replicate m x.toList).flatten := by
  induction m with
  | zero => intro acc; simp
  | succ m ih =>
    intro acc
    rw [List.replicate_succ, List.foldl_cons, ih, List.replicate_succ, List.flatten_cons, Array.toList_append, List.append_assoc]
theorem mul_repS (z : Str) (k : Int) : Txt.mul z k = repS z k.toNat := by
  unfold Txt.mul
  split
  · have : k.toNat = 0 := by omega
    rw [this]
    rfl
  · split
    · rename_i h1 h2
      simp only [Bool.or_eq_true, beq_iff_eq] at h2
      refine ext_toList ?_
      show z.cps.toList = (List.replicate k.toNat z.cps.toList).flatten.toArray.toList
      rcases h2 with rfl | h2
      · simp
      · have e : z.cps.toList = [] := List.eq_nil_of_length_eq_zero (by simpa [Str.length] using h2)
        rw [e]
        simp
    · refine ext_toList ?_
      show ((List.replicate k.toNat z.cps).foldl (· ++ ·) #[]).toList = _
      rw [foldl_arr]
      simp [repS]
theorem op_repS {X : Cx} : OpR X (binaryOp .Mult) (fun x y H Q => ∃ z k, x = .str z ∧ y = .int k ∧ -(2 ^ 63) ≤ k ∧ k ≤ 1000000 ∧ z.length * k.toNat ≤ sizeLine ∧ Q (.str (repS z k.toNat)) H) := by
  intro pins s σ H x y v u Q I rx ry h
  obtain ⟨z, k, rfl, rfl, h1, h2, hz, q⟩ := h
  obtain ⟨t, rfl⟩ := rx
  obtain ⟨t', rfl⟩ := ry
  have hs : sizeLine = 16777216 := sizeLine_eq
  refine SB.mul (mulOk_of z.length k.toNat (Nat.le_refl _) (by omega) h1 (by omega) (by omega)) fun t' k' => ?_
  rw [mul_repS]
  exact ⟨.str (repS z k.toNat), H, I.tok _, ⟨_, rfl⟩, q⟩
/-! ### two types -/
def rEqTy : R2 := fun x y H Q => ∃ a b, x = .ty a ∧ y = .ty b ∧ (a ∈ ["int", "str", "bool", "NoneType", "list", "tuple", "dict", "bytes"]) ∧ (b ∈ ["int", "str", "bool", "NoneType", "list", "tuple", "dict", "bytes"]) ∧ Q (.bl (decide (a = b))) H
theorem meta_of {a : String} (h : a ∈ ["int", "str", "bool", "NoneType", "list", "tuple", "dict", "bytes"]) (s' : Shared) : s'.TypeIs (.type a) "type" := by
  simp only [List.mem_cons, List.not_mem_nil, or_false] at h
  rcases h with rfl | rfl | rfl | rfl | rfl | rfl | rfl | rfl
  · exact TypeEq.meta_int s'
  · exact TypeEq.meta_str s'
  · exact TypeEq.meta_bool s'
  · exact TypeEq.meta_NoneType s'
  · exact TypeEq.meta_list s'
  · exact TypeEq.meta_tuple s'
  · exact TypeEq.meta_dict s'
  · exact TypeEq.meta_bytes s'
theorem op_eqTy {X : Cx} : OpR X (compareOp .Eq) rEqTy := by
  intro pins s σ H x y v u Q I rx ry h
  obtain ⟨a, b, rfl, rfl, ha, hb, q⟩ := h
  cases (show v = Value.type a from rx)
  cases (show u = Value.type b from ry)
  by_cases e : a = b
  · subst e
    exact TypeEq.eq_type_same (meta_of ha) (fin_bl I q (by simp))
  · exact TypeEq.eq_type_other (meta_of ha) (meta_of hb) (by rw [ty_beq, decide_eq_false e]) (fin_bl I q (by simp [e]))
theorem slot_type_ne : Slot "type" (cmpInfo .NotEq).2.1 "object.__ne__" :=
  .of (owner := "object") (n := "__ne__") (by rw [typeLookup_type, builtinLookup_eq_fast]; kernel_rfl) (by decide +kernel) (by decide +kernel) (by decide +kernel)
    (by first | exact .inl (by decide +kernel) | exact .inr (by decide +kernel)) (by rw [isSubtype_type]; kernel_rfl)
theorem slot_type_ne_refl : Slot "type" (cmpInfo .NotEq).2.2 "object.__ne__" :=
  .of (owner := "object") (n := "__ne__") (by rw [typeLookup_type, builtinLookup_eq_fast]; kernel_rfl) (by decide +kernel) (by decide +kernel) (by decide +kernel)
    (by first | exact .inl (by decide +kernel) | exact .inr (by decide +kernel)) (by rw [isSubtype_type]; kernel_rfl)
theorem slot_type_eq' : Slot "type" ("__eq__" : Str) "object.__eq__" := TypeEq.slot_type_eq
section
variable {prog : Program} {w : World} {A : Around} {E : Value → Shared → Prop} {s : Shared}
theorem ne_entry_ty {a b : Value} {v1 : Value} (ha : ∀ s' : Shared, s'.TypeIs a "type") (hv : [a, b].any Value.onHeap = false) (g : Gives (Builtin.«object.__eq__» ⟨[a, b], []⟩) (.val v1)) {Q : Fin → Shared → Prop}
    (hq : (v1 = .bool true ∧ Q (.done (.ret (.bool false))) s) ∨ (v1 = .notImplemented ∧ Q (.done (.ret .notImplemented)) s)) :
    wpAny (model prog w) A (Builtin.«object.__ne__» ⟨[a, b], []⟩) Q E s := by
  unfold Builtin.«object.__ne__»
  repeat (first
    | with_reducible refine wpAny_bind (wpAny_cRoomFor_or (.inl hv) ?_)
    | (refine wpAny_bind (m := callSpecialIfBound? a (Str.ofString "__eq__") [b])
        (wpAny_callSpecialIfBound?_slot (ha s) slot_type_eq' (call_gives slot_type_eq' (ha s) F.entry_object_eq (F.args_object_eq_2 _ _) g (show Made.post (.val v1) _ s from ?_))))
    | wp_step)
  rcases hq with ⟨rfl, hq⟩ | ⟨rfl, hq⟩
  · repeat (first | exact hq | exact wpAny_pure hq | exact wpAny_truthy_bool hq | (refine wpAny_bind (m := truthy (.bool _)) (wpAny_truthy_bool ?_)) | wp_step)
  · repeat (first | exact hq | exact wpAny_pure hq | wp_step)
theorem call_ne_ty {a b : Value} {v1 : Value} (ha : ∀ s' : Shared, s'.TypeIs a "type") (hv : [a, b].any Value.onHeap = false) (g : Gives (Builtin.«object.__eq__» ⟨[a, b], []⟩) (.val v1)) {Q : Value → Shared → Prop}
    (hq : (v1 = .bool true ∧ Q (.bool false) s) ∨ (v1 = .notImplemented ∧ Q .notImplemented s)) : wpAny (model prog w) A (call (.builtin "object.__ne__") [a, b]) Q E s :=
  wpAny_call (codeAny_call_builtin slot_type_ne.plain F.cmpEntry_ne (slot_type_ne.check _ _ _ _ _ _ _ _ (ha s) (F.cmpArgs_ne _ _) (ne_entry_ty ha hv g hq)))
theorem ne_type_same {X : String} (hX : ∀ s' : Shared, s'.TypeIs (.type X) "type") {Q : Value → Shared → Prop} (h : Q (.bool false) s) : wpAny (model prog w) A (compareOp .NotEq (.type X) (.type X)) Q E s := by
  show wpAny _ A (richCompare .NotEq _ _) Q E s
  exact wpAny_richCompare_same (T := "type") (hX s) (hX s) slot_type_ne (call_ne_ty hX rfl (TypeEq.object_eq_same rfl (by simp)) (.inl ⟨rfl, (by intro e; cases e), h⟩))
theorem ne_decline {a b : Value} {T id : String} {k : Bool} {Q : Value → Shared → Prop} {M : Model} (ha : ∀ s' : Shared, s'.TypeIs a T) (hb : ∀ s' : Shared, s'.TypeIs b T)
    (h1 : Slot T (cmpInfo .NotEq).2.1 id) (h2 : Slot T (cmpInfo .NotEq).2.2 id) (hv : [a, b].any Value.onHeap = false) (hk : isSame a b = pure k)
    (hc : wpAny M A (call (.builtin id) [a, b]) (fun v s₁ => v = .notImplemented ∧ wpAny M A (call (.builtin id) [b, a]) (fun v s₂ => v = .notImplemented ∧ Q (.bool (!k)) s₂) E s₁) E s) :
    wpAny M A (richCompare .NotEq a b) Q E s := by
  rcases hi : cmpInfo CmpOp.NotEq with ⟨sym, f, r⟩
  rw [hi] at h1 h2
  simp only [richCompare, hi, (ha s).oneThing_none]
  try with_reducible refine wpAny_holding ?_
  refine wpAny_bind (wpAny_cRoomFor_or (.inl hv) ?_)
  refine wpAny_bind (wpAny_typeOf (ha s) (wpAny_bind (wpAny_typeOf (hb s) ?_)))
  simp only [bne_self_eq_false, Bool.false_eq_true, if_false, pure_bind, Bool.not_false, if_true]
  refine wpAny_bind (m := tryCompare a _ b) (wpAny_tryCompare_declines (ha s) h1 (wpAny_mono hc (fun v s₁ h₁ => ⟨h₁.1, ?_⟩) fun _ _ x => x))
  refine wpAny_bind (m := tryCompare b _ a) (wpAny_tryCompare_declines (hb s₁) h2 (wpAny_mono h₁.2 (fun v s₂ h₂ => ⟨h₂.1, ?_⟩) fun _ _ x => x))
  refine wpAny_bind (wpAny_rule (wpAny_bind (wpAny_of_eq hk (wpAny_pure h₂.2))))
theorem ne_type_other {X Y : String} (hX : ∀ s' : Shared, s'.TypeIs (.type X) "type") (hY : ∀ s' : Shared, s'.TypeIs (.type Y) "type") (hne : (Value.type X == Value.type Y) = false) {Q : Value → Shared → Prop} (h : Q (.bool true) s) : wpAny (model prog w) A (compareOp .NotEq (.type X) (.type Y)) Q E s := by
  have hne' : (Value.type Y == Value.type X) = false := by
    rw [Bool.eq_false_iff] at hne ⊢
    intro e
    exact hne (by rw [beq_iff_eq] at e ⊢; exact e.symm)
  show wpAny _ A (richCompare .NotEq _ _) Q E s
  exact ne_decline (T := "type") (k := false) hX hY slot_type_ne slot_type_ne_refl rfl (by rw [isSame_plain rfl, hne])
    (call_ne_ty hX rfl (TypeEq.object_eq_other rfl hne) (.inr ⟨rfl, rfl, call_ne_ty hY rfl (TypeEq.object_eq_other rfl hne') (.inr ⟨rfl, rfl, h⟩)⟩))
end
def rNeTy : R2 := fun x y H Q => ∃ a b, x = .ty a ∧ y = .ty b ∧ (a ∈ ["int", "str", "bool", "NoneType", "list", "tuple", "dict", "bytes"]) ∧ (b ∈ ["int", "str", "bool", "NoneType", "list", "tuple", "dict", "bytes"]) ∧ Q (.bl (!decide (a = b))) H
theorem op_neTy {X : Cx} : OpR X (compareOp .NotEq) rNeTy := by
  intro pins s σ H x y v u Q I rx ry h
  obtain ⟨a, b, rfl, rfl, ha, hb, q⟩ := h
  cases (show v = Value.type a from rx)
  cases (show u = Value.type b from ry)
  by_cases e : a = b
  · subst e
    exact ne_type_same (meta_of ha) (fin_bl I q (by simp))
  · exact ne_type_other (meta_of ha) (meta_of hb) (by rw [ty_beq, decide_eq_false e]) (fin_bl I q (by simp [e]))
end WH
set_option maxHeartbeats 4000000
namespace WH
open PySem PySem.Spec PyProof.Rows L2
/-! ### a set of the texts of a list -/
def ddS (xs : List Str) : List Str := xs.foldl (fun ss x => if x ∈ ss then ss else ss ++ [x]) []
theorem ddS_snoc (xs : List Str) (x : Str) : ddS (xs ++ [x]) = if x ∈ ddS xs then ddS xs else ddS xs ++ [x] := by
  unfold ddS
  rw [List.foldl_append]
  rfl
theorem ddS_len (xs : List Str) : (ddS xs).length ≤ xs.length := by
  have key : ∀ n (xs : List Str), xs.length = n → (ddS xs).length ≤ n := by
    intro n
    induction n with
    | zero => intro xs h; rw [List.length_eq_zero_iff.mp h]; exact Nat.le_refl _
    | succ n ih =>
      intro xs h
      have ne : xs ≠ [] := fun e => by rw [e] at h; cases h
      rw [← List.dropLast_concat_getLast ne, ddS_snoc]
      have := ih xs.dropLast (by rw [List.length_dropLast]; omega)
      split
      · omega
      · rw [List.length_append, List.length_singleton]; omega
  exact key _ xs rfl
theorem ddS_mem (y : Str) (xs : List Str) : y ∈ ddS xs ↔ y ∈ xs := by
  have key : ∀ n (xs : List Str), xs.length = n → (y ∈ ddS xs ↔ y ∈ xs) := by
    intro n
    induction n with
    | zero => intro xs h; rw [List.length_eq_zero_iff.mp h]; exact Iff.rfl
    | succ n ih =>
      intro xs h
      have ne : xs ≠ [] := fun e => by rw [e] at h; cases h
      have i := ih xs.dropLast (by rw [List.length_dropLast]; omega)
      rw [← List.dropLast_concat_getLast ne, ddS_snoc]
      split
      · rename_i c
        rw [List.mem_append, List.mem_singleton, i]
        refine ⟨.inl, fun e => e.elim id fun e => ?_⟩
        have j := ih xs.dropLast (by rw [List.length_dropLast]; omega)
        rw [e]
        have : xs.getLast ne ∈ ddS xs.dropLast := c
        rw [← e] at this ⊢
        exact j.mp this
      · rw [List.mem_append, List.mem_append, i]
  exact key _ xs rfl
theorem ddS_nd (xs : List Str) : (ddS xs).Nodup := by
  have key : ∀ n (xs : List Str), xs.length = n → (ddS xs).Nodup := by
    intro n
    induction n with
    | zero => intro xs h; rw [List.length_eq_zero_iff.mp h]; exact List.nodup_nil
    | succ n ih =>
      intro xs h
      have ne : xs ≠ [] := fun e => by rw [e] at h; cases h
      rw [← List.dropLast_concat_getLast ne, ddS_snoc]
      have i := ih xs.dropLast (by rw [List.length_dropLast]; omega)
      split
      · exact i
      · rename_i c
        rw [List.nodup_append]
        exact ⟨i, by simp, fun a ha b hb e => c (by
          have hb : b = xs.getLast ne := by simpa using hb
          rw [← hb, ← e]
          exact ha)⟩
  exact key _ xs rfl
theorem SetX.move {P : Program} {w : World} {h h' : Heap} {a : Addr} {ss : List Str} (R : SetX P w h a ss) (k : ∀ o, h.get? a = some o → h'.get? a = some o) : SetX P w h' a ss := by
  obtain ⟨o, es, ep, t, zs, h1, r⟩ := R
  exact ⟨o, es, ep, t, zs, k o h1, r⟩
/-- the new object -/
abbrev nSet (w : World) : Obj := { cls := .type "set", dict := none, data := .set #[] 0 (.fresh 0 0 (!w.params.followText "set-order")) }
theorem setX_at {P : Program} {w : World} {h : Heap} {a : Addr} (ho : h.get? a = some (nSet w)) : SetX P w h a [] := by
  obtain ⟨o, es, ep, t, zs, h1, r⟩ := setX_fresh (P := P) (w := w) (h := h)
  have e : some o = some (nSet w) := h1.symm.trans (Heap.get?_push_size _ rfl)
  exact ⟨o, es, ep, t, zs, by rw [ho, e], r⟩
section
variable {P : Program} {w : World} {A : Around} {E : Value → Shared → Prop} {s : Shared}
theorem fill_strs {I : Addr} {fp wr : List Addr} {G : Array GenState → Array GenState → Prop} {m : Nat} {Pv : Nat → Value → Prop} {St : Nat → Shared → Prop} {R : Result → Shared → Prop}
    (V : WalksS P w A.in1 I fp wr G m Pv St) (b : Addr) (hb : b ∉ fp) (xs : List Str) (hm : m = xs.length) (sm : xs.length + 1 < scanBound) (at' : ∀ i v, Pv i v → ∃ x t, xs[i]? = some x ∧ v = .str x t) :
    ∀ (d i : Nat) (s : Shared), m - i = d → i ≤ m → St i s → SetX P w s.heap b (ddS (xs.take i)) →
      (∀ s', Moved (b :: wr) G s s' → SetX P w s'.heap b (ddS xs) → R (.ok (.ret .none)) s') → codeAny (model P w) A (.builtin "set.update.loop" ⟨[.ref b, .ref I], []⟩) R s := by
  have nb : b ∉ wr := fun h => hb (V.sub _ h)
  have up : ∀ c ∈ wr, c ∈ b :: wr := fun c hc => List.mem_cons_of_mem _ hc
  intro d
  induction d with
  | zero =>
    intro i s e1 e2 st sx fin
    obtain rfl : i = m := by omega
    refine codeAny_builtin F.entry_set_update_loop ?_
    rw [Around.under_plainId F.plain_set_update_loop _]; show wpAny _ A.in1 (pyNext (.ref I) >>= _) _ _ s
    refine wpAny_bind (V.done s _ _ st fun s2 mv => ?_)
    show wpAny _ A.in1 (ret Value.none) _ _ s2
    rw [List.take_of_length_le (by omega)] at sx
    exact wpAny_pure (fin s2 (mv.mono up) (sx.move fun o e => mv.heap b o nb e))
  | succ d ih =>
    intro i s e1 e2 st sx fin
    have lt : i < m := by omega
    refine codeAny_builtin F.entry_set_update_loop ?_
    rw [Around.under_plainId F.plain_set_update_loop _]; show wpAny _ A.in1 (pyNext (.ref I) >>= _) _ _ s
    refine wpAny_bind (V.item i s _ _ lt st fun v s2 pv st2 mv => ?_)
    obtain ⟨x, t, hx, rfl⟩ := at' i v pv
    have sx2 : SetX P w s2.heap b (ddS (xs.take i)) := sx.move fun o e => mv.heap b o nb e
    show wpAny _ A.in1 (holding [Value.str x t] (setAdd b (.str x t)) >>= _) _ _ s2
    refine wpAny_bind (wpAny_holding ?_)
    unfold setAdd
    refine wpAny_holding (wpAny_bind ((mixKind P w).pyHash (k := .inr x) (mixKind_str P w x t) ?_))
    have rm : (ddS (xs.take i)).length + 1 < scanBound := by
      have := ddS_len (xs.take i)
      rw [List.length_take] at this
      omega
    refine setX_add_hashed (s := { heap := s2.heap, gens := s2.gens, drawn := s2.drawn, toks := s2.toks + 1, os := s2.os }) sx2 rm fun h2 sb sx3 => ?_
    have sx4 : SetX P w h2 b (ddS (xs.take (i + 1))) := by
      rw [List.take_add_one, hx, Option.toList_some, ddS_snoc]
      exact sx3
    refine wpAny_pure ⟨plainId_quiet F.plain_set_update_loop _, ih (i + 1) _ (by omega) lt (V.frame _ s2 _ _ st2 (Nat.le_succ _) fun c hc o e => ?_) sx4 fun s3 mv2 sx5 => ?_⟩
    · rw [sb.2 c (fun z : c = b => hb (by rw [← z]; exact hc))]
      exact e
    · refine fin s3 (Moved.trans V.gtrans ((mv.mono up).then_heap (Nat.le_succ _) fun c o hc e => ?_) mv2) sx5
      rw [sb.2 c (fun z : c = b => hc (by rw [z]; exact List.mem_cons_self))]
      exact e
set_option maxHeartbeats 8000000 in
theorem set_of_strs {l : Addr} {its : Array Value} (xs : List Str) {Q : Value → Shared → Prop} (hh : A.handled = none) (hl : s.heap.IsList l its) (hi : StrsAre its.toList xs) (sm : xs.length + 1 < scanBound)
    (q : ∀ (h' : Heap) (tk : Nat), SetX P w h' s.heap.objs.size (ddS xs) → (∀ b o, s.heap.get? b = some o → h'.get? b = some o) → Q (.ref s.heap.objs.size) { s with heap := h', toks := tk }) : wpAny (model P w) A (call (.type "set") [.ref l]) Q E s := by
  have sz : its.size = xs.length := by
    have := hi.length
    rwa [Array.length_toList] at this
  obtain ⟨_, _, hmro⟩ := F.called_set.mro
  have hmade := F.called_set.made; have hsub := F.called_set.sub
  refine wpAny_call (codeAny_of_tree ?_)
  show wpAny _ _ (callAny (.type "set") _) _ _ _
  refine wpAny_pure ⟨Code.quiet_builtin _ (by decide +kernel), codeAny_builtin F.entry_type_call ?_⟩
  rw [Around.under_plain (weight_type_call_type "set" [.ref l] []) rfl]
  have f1 := F.called_set.notType; have f2 := F.called_set.canCreate; have f3 := F.typeCall_set_1 (.ref l)
  repeat (any_goals (first | assumption | wp_step))
  refine codeAny_mono (L2.code_set_led1 (.ref l) (E := E) (Q₁ := fun o s1 => o = .ref s.heap.objs.size ∧ s1 = { s with heap := s.heap.push (nSet w) }) ⟨rfl, rfl⟩) fun r s1 hr => ?_
  match r, hr with
  | .error e, hr => exact hr
  | .ok (.ret obj), hr =>
    obtain ⟨rfl, rfl⟩ := hr
    have g0 : (s.heap.push (nSet w)).get? s.heap.objs.size = some (nSet w) := Heap.get?_push_size _ rfl
    have ty : Shared.TypeIs { s with heap := s.heap.push (nSet w) } (.ref s.heap.objs.size) "set" := ⟨_, g0, rfl⟩
    have i1 := F.called_set.init.lookup; have i2 := F.called_set.init.bind (.ref s.heap.objs.size)
    repeat (any_goals (first | assumption | wp_step))
    refine codeAny_mono (codeAny_call_builtin (R := wants (fun r s2 => r = .none ∧ ∃ h' tk, s2 = { s with heap := h', toks := tk } ∧ SetX P w h' s.heap.objs.size (ddS xs) ∧ (∀ b o, s.heap.get? b = some o → h'.get? b = some o)) E)
      F.called_set.init.plain F.entry_set_init (check_set_init_1 ty ?_)) fun r2 s2 hr2 => ?_
    · obtain ⟨⟨oc, od, oda, osl⟩, g1, c1, nl, c2⟩ := hl
      simp only at c1 c2
      subst c1 c2
      have g2 : (s.heap.push (nSet w)).get? l = some { cls := .type "list", dict := od, data := .seq its nl, slots := osl } := Heap.get?_push_of_some _ g1
      have k1 := F.sub_list_set; have k2 := F.sub_list_frozenset
      have k3 : (Value.type "list" == Value.type "dict") = false := by decide
      have hl1 : (s.heap.push (nSet w)).IsList l its := ⟨_, g2, rfl, nl, rfl⟩
      unfold Builtin.«set.__init__» noKeywords Builtin.Frozenset.updateFrom
      generalize hPI : pyIter = PI
      wp_walk
      subst hPI
      refine wpAny_pyIter_list hl1 (wpAny_bind (wpAny_runValue ?_))
      have lS : l < s.heap.objs.size := Heap.lt_size g1
      have h3 : A.in1.in1.in1.handled = none := by simp [hh]
      have n1 : l ≠ (s.heap.push (nSet w)).objs.size := by
        rw [Heap.size_push]
        exact Nat.ne_of_lt (Nat.lt_succ_of_lt lS)
      have n2 : s.heap.objs.size ∉ [(s.heap.push (nSet w)).objs.size, l] := by
        rw [Heap.size_push]
        simp only [List.mem_cons, List.not_mem_nil, or_false, not_or]
        exact ⟨Nat.ne_of_lt (Nat.lt_succ_self _), Nat.ne_of_gt lS⟩
      have vals : ∀ (i : Nat) (v : Value), its[i]? = some v → ∃ x t, xs[i]? = some x ∧ v = .str x t := fun i v hv => by
        have hi' : i < xs.length := by
          rw [← sz]
          exact (Array.getElem?_eq_some_iff.mp hv).1
        obtain ⟨t, e⟩ := SS.strs_at hi i v (by rw [Array.getElem?_toList]; exact hv)
        refine ⟨xs[i], t, List.getElem?_eq_getElem hi', ?_⟩
        rw [e, List.getD_eq_getElem?_getD, List.getElem?_eq_getElem hi'] <;> rfl
      refine fill_strs ((Walks.list h3 _ l n1 its).toS) s.heap.objs.size n2 xs sz sm vals (its.size - 0) 0 _ (by omega) (Nat.zero_le _) ⟨⟨_, Heap.get?_push_size _ rfl, rfl, rfl⟩, (hl1.push _)⟩ ?_ ?_
      · exact setX_at (Heap.get?_push_of_some _ g0)
      · intro s' mv sx
        obtain ⟨h', a2, a3, tk', a5⟩ := s'
        obtain rfl : a2 = s.gens := mv.gens
        obtain rfl : a3 = s.drawn := mv.drawn
        obtain rfl : a5 = s.os := mv.os
        show wpAny _ _ _ _ _ _
        refine wpAny_pure ?_
        show wpAny _ _ (ret Value.none) _ _ _
        refine wpAny_pure ⟨rfl, h', tk', rfl, sx, fun b o e => ?_⟩
        have b0 : b < s.heap.objs.size := Heap.lt_size e
        refine mv.heap b o ?_ (Heap.get?_push_of_some _ (Heap.get?_push_of_some _ e))
        simp only [List.mem_cons, List.not_mem_nil, or_false, not_or]
        refine ⟨Nat.ne_of_lt b0, ?_⟩
        rw [Heap.size_push]
        exact Nat.ne_of_lt (Nat.lt_succ_of_lt b0)
    · match r2, hr2 with
      | .error e, hr2 => exact hr2
      | .ok (.ret v), hr2 =>
        obtain ⟨rfl, h', tk, rfl, sx, kp⟩ := hr2
        repeat (any_goals (first | assumption | wp_step))
        exact q _ _ sx kp
end
end WH
set_option maxHeartbeats 8000000
namespace WH
open PySem PySem.Spec PyProof.Rows L2
/-! ### a set of the signs of a text -/
def sgsS (z : Str) : List Str := z.cps.toList.map fun c => (⟨#[c]⟩ : Str)
section
variable {P : Program} {w : World} {A : Around} {E : Value → Shared → Prop} {s : Shared}
theorem set_of_text {z : Str} {t0 : Tok} {Q : Value → Shared → Prop} (hh : A.handled = none) (sm : z.length + 1 < scanBound)
    (q : ∀ (h' : Heap) (tk : Nat), SetX P w h' s.heap.objs.size (ddS (sgsS z)) → (∀ b o, s.heap.get? b = some o → h'.get? b = some o) → Q (.ref s.heap.objs.size) { s with heap := h', toks := tk }) : wpAny (model P w) A (call (.type "set") [.str z t0]) Q E s := by
  have sl : (sgsS z).length = z.length := by simp [sgsS, Str.length]
  obtain ⟨_, _, hmro⟩ := F.called_set.mro
  have hmade := F.called_set.made; have hsub := F.called_set.sub
  refine wpAny_call (codeAny_of_tree ?_)
  show wpAny _ _ (callAny (.type "set") _) _ _ _
  refine wpAny_pure ⟨Code.quiet_builtin _ (by decide +kernel), codeAny_builtin F.entry_type_call ?_⟩
  rw [Around.under_plain (weight_type_call_type "set" [.str z t0] []) rfl]
  have f1 := F.called_set.notType; have f2 := F.called_set.canCreate; have f3 := F.typeCall_set_1 (.str z t0)
  repeat (any_goals (first | assumption | wp_step))
  refine codeAny_mono (L2.code_set_led1 (.str z t0) (E := E) (Q₁ := fun o s1 => o = .ref s.heap.objs.size ∧ s1 = { s with heap := s.heap.push (nSet w) }) ⟨rfl, rfl⟩) fun r s1 hr => ?_
  match r, hr with
  | .error e, hr => exact hr
  | .ok (.ret obj), hr =>
    obtain ⟨rfl, rfl⟩ := hr
    have g0 : (s.heap.push (nSet w)).get? s.heap.objs.size = some (nSet w) := Heap.get?_push_size _ rfl
    have ty : Shared.TypeIs { s with heap := s.heap.push (nSet w) } (.ref s.heap.objs.size) "set" := ⟨_, g0, rfl⟩
    have i1 := F.called_set.init.lookup; have i2 := F.called_set.init.bind (.ref s.heap.objs.size)
    repeat (any_goals (first | assumption | wp_step))
    refine codeAny_mono (codeAny_call_builtin (R := wants (fun r s2 => r = .none ∧ ∃ h' tk, s2 = { s with heap := h', toks := tk } ∧ SetX P w h' s.heap.objs.size (ddS (sgsS z)) ∧ (∀ b o, s.heap.get? b = some o → h'.get? b = some o)) E)
      F.called_set.init.plain F.entry_set_init (check_set_init_1 ty ?_)) fun r2 s2 hr2 => ?_
    · have k1 := F.sub_str_set; have k2 := F.sub_str_frozenset
      have k3 : (Value.type "str" == Value.type "dict") = false := by decide
      unfold Builtin.«set.__init__» noKeywords Builtin.Frozenset.updateFrom
      generalize hPI : pyIter = PI
      wp_walk
      subst hPI
      refine wpAny_pyIter_str fun oi St wk st0 => ?_
      refine wpAny_bind (wpAny_runValue ?_)
      have h3 : A.in1.in1.in1.handled = none := by simp [hh]
      have n2 : s.heap.objs.size ∉ [(s.heap.push (nSet w)).objs.size] := by
        rw [Heap.size_push]
        simp only [List.mem_cons, List.not_mem_nil, or_false]
        exact Nat.ne_of_lt (Nat.lt_succ_self _)
      have vals : ∀ (i : Nat) (v : Value), SignAt z i v → ∃ x t, (sgsS z)[i]? = some x ∧ v = .str x t := fun i v ⟨c, u, hc, e⟩ => ⟨⟨#[c]⟩, u, by
        unfold sgsS
        rw [List.getElem?_map, Array.getElem?_toList, hc]
        rfl, e⟩
      have sz : z.cps.size = (sgsS z).length := sl.symm
      refine fill_strs ((wk _ h3).toS) s.heap.objs.size n2 (sgsS z) sz (by rw [sl]; exact sm) vals (z.cps.size - 0) 0 _ (by omega) (Nat.zero_le _) st0 ?_ ?_
      · exact setX_at (Heap.get?_push_of_some _ g0)
      · intro s' mv sx
        obtain ⟨h', a2, a3, tk', a5⟩ := s'
        obtain rfl : a2 = s.gens := mv.gens
        obtain rfl : a3 = s.drawn := mv.drawn
        obtain rfl : a5 = s.os := mv.os
        show wpAny _ _ _ _ _ _
        refine wpAny_pure ?_
        show wpAny _ _ (ret Value.none) _ _ _
        refine wpAny_pure ⟨rfl, h', tk', rfl, sx, fun b o e => ?_⟩
        have b0 : b < s.heap.objs.size := Heap.lt_size e
        refine mv.heap b o ?_ (Heap.get?_push_of_some _ (Heap.get?_push_of_some _ e))
        simp only [List.mem_cons, List.not_mem_nil, or_false, not_or]
        refine ⟨Nat.ne_of_lt b0, ?_⟩
        rw [Heap.size_push]
        exact Nat.ne_of_lt (Nat.lt_succ_of_lt b0)
    · match r2, hr2 with
      | .error e, hr2 => exact hr2
      | .ok (.ret v), hr2 =>
        obtain ⟨rfl, h', tk, rfl, sx, kp⟩ := hr2
        repeat (any_goals (first | assumption | wp_step))
        exact q _ _ sx kp
end
end WH
namespace WH
open PySem PySem.Spec PyProof.Rows L2
section
variable {X : Cx} {CX : CXT} {k : Nat} {f : Addr} {fd : FuncData} {ps : List Str} {sp : Sp} {E : XK} {x : Str} {p pos : Pos}
/-- f(), f such a def -/
theorem pe_callG0 (F : FnG X.prog X.w X.K X.mg X.base CX k f fd ps sp) (hr : Room k X.A) (hG : X.A.guards = some []) (hg : Gl X x) (hm : X.mg x = some (.ref f)) (hk : PySem.W.keepIn X.K (.ref f) = true) (hb : Binds X.K fd ps []) (hx : Passes CX X E)
    (hdb : (x == ("__debug__" : Str)) = false := by decide) : PE X (.Call (.Name x p) [] [] pos) (tCall sp [] E tNil) := by
  refine ⟨fun pins s σ H Q I h => wpAny_Call_Name_kw (ld_glob I hg hm ?_ hdb)⟩
  refine PySem.W.callWith_K0 I.kIn hk ?_
  have q0 : sp [] H Q E := by
    have h' : sp ([] ++ []) H Q E := h
    simpa using h'
  have le : ([] : List Value).length = ps.length := F.len _ _ _ _ q0
  have bd : BindsTo s fd ⟨[], []⟩ (ps.zip []) := by simpa using hb s [] I.kIn (by simpa using le)
  refine wpAny_call (codeAny_mono (F.run X.A X.stack s H ⟨[], []⟩ [] [] Q E hr hG I.env0 bd .nil q0) fun res s2 out => ?_)
  match res, out with
  | .error _, out => exact hx pins σ H s _ s2 I out
  | .ok (.ret _), out => exact I.after out
  | .ok .next, out => exact out.elim
  | .ok .brk, out => exact out.elim
  | .ok .cont, out => exact out.elim
end
end WH
namespace WH
open PySem PySem.Spec PyProof.Rows L2
/-! ### list.count of truth values -/
def isBl (k : Bool) (v : Value) : Bool := match v with
  | .bool b => b == k
  | _ => false
theorem bls_eq {k : Bool} : ∀ {vs : List V} {us : List Value} {bs : List Bool}, Vals vs us → vs = bs.map V.bl → (∀ y ∈ us, MeetsSeq.EqGives y (.bool k) (isBl k y)) ∧ us.countP (isBl k) = bs.count k
  | _, _, [], .nil, _ => ⟨(fun y hy => by cases hy), rfl⟩
  | _, _, b :: bs, .nil, e => by cases e
  | _, _, [], .cons _ _, e => by cases e
  | _, _, b :: bs, .cons r t, e => by
    obtain ⟨rfl, e2⟩ := List.cons.inj e
    obtain ⟨h1, h2⟩ := bls_eq (k := k) t e2
    have r : _ = Value.bool b := r
    subst r
    refine ⟨fun y hy => ?_, ?_⟩
    · rcases List.mem_cons.mp hy with rfl | hy
      · exact fun prog w A E s Q q => SeqAt.EqAt.bool_bool b k _ _ _ _ (by
          have : decide (b = k) = isBl k (.bool b) := by cases b <;> cases k <;> rfl
          first | exact q | (rw [this]; exact q) | (rw [← this] at q; exact q))
      · exact h1 y hy
    · rw [List.countP_cons, List.count_cons, h2] <;> rfl
def rCntB (K : PySem.W.Frag) : V → List V → Hp → VK → Prop := fun x xs H Q => ∃ (p : Addr) (bs : List Bool) (k : Bool), x = .ref p ∧ xs = [.bl k] ∧ SqL K H p (bs.map V.bl) ∧ Q (.int (bs.count k : Nat)) H
theorem mt_countB {X : Cx} : MtR X "list.count" (rCntB X.K) := fun pins s σ H x xs v us Q I rx rxs h => by
  obtain ⟨p, bs, k, rfl, rfl, hs, q⟩ := h
  cases rx
  obtain ⟨u, rfl, ru⟩ := rxs.one
  have ru : u = Value.bool k := ru
  subst ru
  obtain ⟨its, rv, ⟨⟨cls, dd, data, sl⟩, n, ho, hc, hdn, hd⟩, hlen⟩ := I.list hs
  have hc : cls = _ := hc
  have hd : data = _ := hd
  subst hc hd
  obtain ⟨g1, g2⟩ := bls_eq (k := k) rv rfl
  refine call_meets PySem.F.slot_list_count ⟨_, ho, rfl⟩ PySem.F.entry_list_count (PySem.F.args_list_count_2 _ _) (SeqAt.list_countAt p its.toArray n dd sl (.bool k) (isBl k)) ⟨ho, fun y hy => (g1 y (by simpa using hy)).at _ _, ?_⟩
  refine ⟨.int (bs.count k : Nat), H, I.tok _, ⟨s.toks, ?_⟩, q⟩
  have g2 : its.toArray.toList.countP (isBl k) = bs.count k := g2
  show Value.int ((its.toArray.toList.countP (isBl k) : Nat) : Int) s.toks = _
  rw [g2]
end WH
namespace WHS
open PySem PyProof.Rows Srt
section
variable {prog : Program} {w : World} {A : Around} {E : Value → Shared → Prop} {s : Shared}
def sv : Value → Str
  | .str x _ => x
  | _ => ⟨#[]⟩
def ltSv (v u : Value) : Bool := decide ((sv v).cps.toList < (sv u).cps.toList)
theorem swo_str : SrtO.Swo ltSv := by
  refine ⟨fun x y h => ?_, fun x y z h1 h2 => ?_⟩
  · have a := of_decide_eq_true (p := (sv x).cps.toList < (sv y).cps.toList) h
    exact decide_eq_false (p := (sv y).cps.toList < (sv x).cps.toList) (List.lt_asymm a)
  · have a := of_decide_eq_false (p := (sv y).cps.toList < (sv x).cps.toList) h1
    have b := of_decide_eq_false (p := (sv z).cps.toList < (sv y).cps.toList) h2
    exact decide_eq_false (p := (sv z).cps.toList < (sv x).cps.toList) (List.not_lt.mpr (List.le_trans (List.not_lt.mp a) (List.not_lt.mp b)))
theorem strs_memV : ∀ {vs : List Value} {ns : List Str}, StrsAre vs ns → ∀ v ∈ vs, ∃ i t, v = Value.str i t
  | _, _, .nil, v, h => absurd h (by simp)
  | _, _, .cons n t r, v, h => by
    rcases List.mem_cons.mp h with e | h
    · exact ⟨n, t, e⟩
    · exact strs_memV r v h
theorem strs_sv : ∀ {vs : List Value}, (∀ v ∈ vs, ∃ i t, v = Value.str i t) → StrsAre vs (vs.map sv)
  | [], _ => .nil
  | v :: vs, h => by
    obtain ⟨i, t, e⟩ := h v List.mem_cons_self
    subst e
    exact .cons i t (strs_sv fun u hu => h u (List.mem_cons_of_mem _ hu))
theorem sv_strs : ∀ {vs : List Value} {ns : List Str}, StrsAre vs ns → vs.map sv = ns
  | _, _, .nil => rfl
  | _, _, .cons n t r => congrArg (n :: ·) (sv_strs r)
theorem str_cmp {vs : List Value} {ns : List Str} (hI : StrsAre vs ns) : SrtO.Cmp prog w A s oneType' (fun p => p.1 ∈ vs) (SrtO.lt2 ltSv) := by
  intro p q hm hm'
  obtain ⟨a, t, e⟩ := strs_memV hI _ hm
  obtain ⟨b, u, e'⟩ := strs_memV hI _ hm'
  show wpAny (model prog w) A (keyLt' oneType' p.1 q.1) (fun r s' => s' = s ∧ r = ltSv p.1 q.1) (fun _ _ => False) s
  rw [e, e', keyLt'_oneType]
  exact oneLt_str ⟨rfl, rfl⟩
theorem strs_sortable {a : Addr} {vs : List Value} {ns : List Str} (hI : StrsAre vs ns) (h2 : 2 ≤ vs.length) : SrtO.SortableO prog w A s a vs ltSv := by
  intro h' _
  refine ⟨oneType', fun Q E hq => ?_, str_cmp hI⟩
  match vs, hI, h2 with
  | v1 :: v2 :: rest, hI, _ =>
    rw [keyKind_strs hI]
    exact wpAny_pure hq
  | [], _, h => exact absurd h (by decide)
  | [v], _, h => exact absurd h (by simp)
theorem sorted_pw : ∀ {l : List Str}, l.Pairwise (fun x y => ¬ y.cps.toList < x.cps.toList) → sortedS l = true
  | [], _ => rfl
  | x :: r, h => by
    have key : ∀ (r : List Str) (p : Str), (p :: r).Pairwise (fun x y => ¬ y.cps.toList < x.cps.toList) → risingS p r = true := by
      intro r
      induction r with
      | nil => intro p _; rfl
      | cons y r ih =>
        intro p h
        obtain ⟨h1, h2⟩ := List.pairwise_cons.mp h
        have a := h1 y List.mem_cons_self
        have b := ih y h2
        simp only [risingS, b, Bool.and_true, Bool.not_eq_true']
        rw [ltCps_eq]
        exact decide_eq_false a
    exact key r x h
theorem strs_out {vs out : List Value} {ns : List Str} (hI : StrsAre vs ns) (hs : SrtO.Srtd ltSv out) (hb : SrtO.Stb ltSv out vs) : StrsAre out (out.map sv) ∧ (out.map sv).Perm ns ∧ sortedS (out.map sv) = true := by
  refine ⟨strs_sv fun v hv => strs_memV hI v (hb.perm.mem_iff.mp hv), ?_, ?_⟩
  · have q := hb.perm.map sv
    rw [sv_strs hI] at q
    exact q
  · exact sorted_pw (List.pairwise_map.mpr (hs.imp fun {x y} h => of_decide_eq_false (p := (sv y).cps.toList < (sv x).cps.toList) h))
end
end WHS
namespace WH
open PySem PySem.Spec PyProof.Rows L2
section
variable {P : Program} {w : World} {A : Around} {E : Value → Shared → Prop} {s : Shared} {a : Addr} {ss : List Str}
/-- sorted of a set of texts of any size -/
theorem sorted_setXL {Q : Value → Shared → Prop} (hS : SetX P w s.heap a ss) (hA : A.handled = none)
    (q : ∀ (s' : Shared) (p : Nat) (out : Array Value) (c : Nat) (ys : List Str), (∀ (b : Addr) (o : Obj), s.heap.get? b = some o → s'.heap.get? b = some o) → s'.gens = s.gens → s'.os = s.os → s.heap.objs.size ≤ p → s'.heap.get? p = some (seqObj "list" out c) →
      StrsAre out.toList ys → ys.Perm ss → sortedS ys = true → Q (.ref p) s') : wpAny (model P w) A (call (.builtin "sorted") [.ref a]) Q E s := by
  obtain ⟨o, es, ep, t, zs, h1, h2, h3, h4, h5, h6, h7, h8, h9, h10, h11⟩ := hS
  refine Calls.call_function_entry kind_sorted plain_sorted entry_sorted (args_sorted1 _) ?_
  show wpAny (model P w) A.in1 (Builtin.sorted { pos := [Value.ref a] }) _ E s
  unfold Builtin.sorted
  refine wpAny_bind (wpAny_pure ?_)
  refine wpAny_bind ?_
  refine collect_set (a := a) (es := es) (ep := ep) (t := t) hA ⟨o, h1, h2.1, h3⟩ h9 h8 h10 h11 fun s1 out k1 k2 k3 k4 pp => ?_
  obtain ⟨ys, y1, y2⟩ := strs_perm pp h5
  have hlen : out.length < 4096 := by
    have := y1.length
    rw [this, y2.length_eq]
    have := h5.length
    rw [List.length_map, Array.length_toList] at this
    rw [← this]
    exact h8
  have hz : out.length ≤ sizeLine := by rw [sizeLine_eq]; omega
  refine wpAny_bind ?_
  refine wpAny_newList ?_ (by simpa using hz)
  refine wpAny_bind ?_
  refine wpAny_holding ?_
  have hg : (s1.heap.push { cls := Value.type "list", data := Data.seq out.toArray }).get? s1.heap.objs.size = some (seqObj "list" out.toArray 0) := Heap.get?_push_size _ rfl
  refine wpAny_call_entry slot_list_sort ⟨_, hg, rfl⟩ entry_list_sort
    (SrtO.list_sort_ord WHS.swo_str hg hz (fun h2 => WHS.strs_sortable y1 h2) fun res g1 g2 => ⟨_, rfl, ?_⟩) (args_list_sort _)
  obtain ⟨z1, z2, z3⟩ := WHS.strs_out y1 g1 g2
  obtain ⟨e, he⟩ := sortedHeap_at (vs := out) (out := res.toArray) hg
  refine wpAny_pure ⟨_, rfl, ?_⟩
  refine q _ s1.heap.objs.size _ e (res.map WHS.sv) (fun b u hb => ?_) k3 k4 k2 he (by simpa using z1) (z2.trans (y2.trans h6)) z3
  have hb1 := k1 b u hb
  have lt := Heap.lt_size hb1
  rw [sortedHeap_old (Nat.ne_of_lt lt) (by rw [size_push']; exact Nat.lt_succ_of_lt lt)]
  exact Heap.get?_push_of_some _ hb1
end
def rSortedXL (P : Program) (w : World) : List V → Hp → VK → Prop := fun vs H Q => ∃ (a : Addr) (ss : List Str), vs = [.ref a] ∧ H a = some (SetXO P w a ss) ∧ ss.length ≤ 4096 ∧ ∀ (ys : List Str) (p : Addr), ys.Perm ss → sortedS ys = true → H p = none → Q (.ref p) (upd H p (.lst (ys.map V.str)))
theorem cr_sortedXL {X : Cx} (hc : X.calm = true) : CallR X (.builtin "sorted") (rSortedXL X.prog X.w) := fun pins s σ H vs us Q I r h => by
  obtain ⟨a, ss, rfl, ha, hl, q⟩ := h
  rw [Vals.ref1 r]
  refine sorted_setXL (setX_get I ha) (I.ok.hd hc) fun s' p out c ys k g o hp hg y1 y2 y3 => ?_
  have hlen : (ys.map V.str).length ≤ sizeLine := by
    rw [List.length_map, y2.length_eq, sizeLine_eq]
    omega
  have hn := HOk.fresh I.hok hp
  have ob : ObjOk X.prog X.w (upd H p (.lst (ys.map V.str))) s'.heap p (.lst (ys.map V.str)) := ⟨hlen, out.toList, c, vals_of_strs y1, hg⟩
  have bare : AllBare s'.gens := by
    rw [g]
    exact I.bare
  have J := Inv.call (H' := upd H p (.lst (ys.map V.str))) (h' := s'.heap) (g' := s'.gens) (d' := s'.drawn) (t' := s'.toks) (ch := []) I (Un.laid k hp hn) (HOk.laid I.hok k hp ob) bare (fun x z => absurd z (by simp))
  have e : s' = { heap := s'.heap, gens := s'.gens, drawn := s'.drawn, toks := s'.toks, os := s.os } := by
    cases s'
    cases o
    rfl
  rw [e]
  exact ⟨.ref p, _, J, rfl, q ys p y2 y3 hn⟩
/-- sorted(xs) of texts of any number -/
def rSortedSL (K : PySem.W.Frag) : List V → Hp → VK → Prop := fun vs H Q => ∃ (a : Addr) (xs : List Str), vs = [V.ref a] ∧ SqL K H a (xs.map V.str) ∧
  ∀ (ys : List Str) (p : Addr), ys.Perm xs → sortedS ys = true → H p = none → Q (.ref p) (upd H p (.lst (ys.map V.str)))
theorem cr_sortedSL {X : Cx} : CallR X (.builtin "sorted") (rSortedSL X.K) := by
  intro pins s σ H vs us Q I r h
  obtain ⟨a, ns, rfl, hs, q⟩ := h
  obtain ⟨its, rv, hl, hz⟩ := I.list hs
  rw [Vals.ref1 r]
  have hi := rv.strs
  refine SrtO.sorted_ord WHS.swo_str hl.isList (by rw [← rv.length]; exact hz) (fun h2 h₁ a' _ _ => WHS.strs_sortable hi h2) fun out h1 h2 => ?_
  obtain ⟨k1, k2, k3⟩ := WHS.strs_out hi h1 h2
  obtain ⟨ep, he'⟩ := PyProof.Rows.sortedAll_at s.heap its out.toArray
  have hlen : ((out.map WHS.sv).map V.str).length ≤ sizeLine := by
    rw [List.length_map, k2.length_eq]
    rw [List.length_map] at hz
    exact hz
  exact ⟨.ref _, upd H (s.heap.objs.size + 1) (.lst ((out.map WHS.sv).map V.str)), I.laid (t' := s.toks) (fun _ _ => PyProof.Rows.sortedAll_old) (Nat.le_succ _) ⟨hlen, out, ep, vals_of_strs k1, he'⟩, rfl, q _ _ k2 k3 (I.hok.fresh (Nat.le_succ _))⟩
/-- set(xs) of less than 4095 texts -/
def rSetXOfL (K : PySem.W.Frag) (P : Program) (w : World) : List V → Hp → VK → Prop := fun vs H Q => ∃ (l : Addr) (xs : List Str), vs = [.ref l] ∧ SqL K H l (xs.map V.str) ∧ xs.length ≤ 4094 ∧ ∀ p, H p = none → Q (.ref p) (upd H p (SetXO P w p (ddS xs)))
theorem cr_setXOfL {X : Cx} (hc : X.calm = true) : CallR X (.type "set") (rSetXOfL X.K X.prog X.w) := fun pins s σ H xs us Q I r h => by
  obtain ⟨l, xs, rfl, hl, hf, q⟩ := h
  rw [Vals.ref1 r]
  obtain ⟨its, rv, pl, hz⟩ := I.list hl
  refine set_of_strs (P := X.prog) (w := X.w) xs (I.ok.hd hc) pl.isList (by simpa using strs_of_vals rv) (Nat.lt_of_le_of_lt (Nat.succ_le_succ hf) (by decide)) fun h' tk sx k => ?_
  exact ⟨.ref s.heap.objs.size, upd H s.heap.objs.size (SetXO X.prog X.w s.heap.objs.size (ddS xs)), I.laid (t' := tk) k (Nat.le_refl _) (setX_new sx), rfl, q _ (I.hok.fresh (Nat.le_refl _))⟩
end WH
namespace WH
/-! ### words run together, plainly -/
inductive Made (X : List Nat → Prop) : List Nat → Prop
  | nil : Made X []
  | app {x t : List Nat} : X x → Made X t → Made X (x ++ t)
theorem Made.one {X : List Nat → Prop} {x : List Nat} (h : X x) : Made X x := by
  have := Made.app h Made.nil
  rwa [List.append_nil] at this
theorem Made.cat {X : List Nat → Prop} {s t : List Nat} (h : Made X s) (g : Made X t) : Made X (s ++ t) := by
  induction h with
  | nil => exact g
  | app hx _ ih =>
    rw [List.append_assoc]
    exact .app hx ih
theorem Made.sub {X Y : List Nat → Prop} (h : ∀ x, X x → Made Y x) {t : List Nat} (m : Made X t) : Made Y t := by
  induction m with
  | nil => exact .nil
  | app hx _ ih => exact (h _ hx).cat ih
/-- no word begins another one -/
structure LeftFree (X : List Nat → Prop) : Prop where
  ne : ∀ x, X x → x ≠ []
  pf : ∀ x y, X x → X y → x <+: y → x = y
theorem append_cases {a b c d : List Nat} (h : a ++ b = c ++ d) : a <+: c ∨ c <+: a := by
  rcases Nat.le_total a.length c.length with l | l
  · left
    exact List.prefix_of_prefix_length_le (List.prefix_append a b) (by rw [h]; exact List.prefix_append c d) l
  · right
    exact List.prefix_of_prefix_length_le (List.prefix_append c d) (by rw [← h]; exact List.prefix_append a b) l
theorem LeftFree.cancel {X : List Nat → Prop} (L : LeftFree X) {u : List Nat} (hu : Made X u) : ∀ {v : List Nat}, Made X (u ++ v) → Made X v := by
  induction hu with
  | nil => intro v h; exact h
  | @app x t hx ht ih =>
    intro v h
    rw [List.append_assoc] at h
    generalize e : x ++ (t ++ v) = s at h
    cases h with
    | nil =>
      have : x = [] := by
        cases x with
        | nil => rfl
        | cons a b => cases e
      exact absurd this (L.ne _ hx)
    | @app y r hy hr =>
      have exy : x = y := by
        rcases append_cases e with p | p
        · exact L.pf _ _ hx hy p
        · exact (L.pf _ _ hy hx p).symm
      subst exy
      have e2 : t ++ v = r := List.append_cancel_left e
      subst e2
      exact ih hr
/-- what is made and a word is one word -/
theorem LeftFree.single {X : List Nat → Prop} (L : LeftFree X) {w : List Nat} (hw : X w) {x t : List Nat} (hx : X x) (e : w = x ++ t) : x = w ∧ t = [] := by
  have p : x <+: w := by rw [e]; exact List.prefix_append x t
  have := L.pf _ _ hx hw p
  refine ⟨this, ?_⟩
  rw [this] at e
  have e2 : w ++ [] = w ++ t := by rw [List.append_nil]; exact e
  exact (List.append_cancel_left e2).symm
theorem LeftFree.same {X Y : List Nat → Prop} (L : LeftFree X) (M : LeftFree Y) (h1 : ∀ x, X x → Made Y x) (h2 : ∀ y, Y y → Made X y) : ∀ w, X w → Y w := by
  intro w hw
  have hm := h1 w hw
  cases hm with
  | nil => exact absurd rfl (L.ne _ hw)
  | @app y t hy ht =>
    -- y is made of X
    have hy2 := h2 y hy
    cases hy2 with
    | nil => exact absurd rfl (M.ne _ hy)
    | @app x r hx hr =>
      have e : x ++ r ++ t = x ++ (r ++ t) := List.append_assoc _ _ _
      rw [e] at hw
      obtain ⟨a, b⟩ := L.single hw hx rfl
      obtain ⟨rfl, rfl⟩ := List.append_eq_nil_iff.mp b
      rw [List.append_nil, List.append_nil]
      rwa [List.append_nil] at hy
/-- cuts from X0 led to X -/
structure CutL (X0 X : List Nat → Prop) : Prop where
  up : ∀ x, X0 x → Made X x
  dn : ∀ C, LeftFree C → (∀ x, X0 x → Made C x) → ∀ x, X x → Made C x
theorem CutL.refl (X : List Nat → Prop) : CutL X X := ⟨fun _ h => .one h, fun _ _ h => h⟩
theorem CutL.step {X0 X Y : List Nat → Prop} (c : CutL X0 X) {x t : List Nat} (hx : X x) (hy : X (x ++ t)) (ne : t ≠ []) (h1 : ∀ w, Y w → w = t ∨ X w) (h2 : ∀ w, X w → w ≠ x ++ t → Y w) (h3 : Y t) : CutL X0 Y := by
  have hxt : x ≠ x ++ t := fun e => ne (by
    have : x ++ [] = x ++ t := by rw [List.append_nil]; exact e
    exact (List.append_cancel_left this).symm)
  have up : ∀ w, X w → Made Y w := fun w hw => by
    by_cases e : w = x ++ t
    · rw [e]
      exact .app (h2 x hx hxt) (.one h3)
    · exact .one (h2 w hw e)
  refine ⟨fun w hw => (c.up w hw).sub up, fun C L hC w hw => ?_⟩
  rcases h1 w hw with rfl | h
  · exact L.cancel (c.dn C L hC x hx) (c.dn C L hC _ hy)
  · exact c.dn C L hC w h
theorem CutL.end {X0 X Y : List Nat → Prop} (a : CutL X0 X) (b : CutL X0 Y) (L : LeftFree X) (M : LeftFree Y) (w : List Nat) : X w ↔ Y w :=
  ⟨L.same M (a.dn Y M b.up) (b.dn X L a.up) w, M.same L (b.dn X L a.up) (a.dn Y M b.up) w⟩
/-! ### how long the words are in all -/
theorem sum_filter_lt {α : Type} (f : α → Nat) (p : α → Bool) : ∀ (l : List α), ((l.filter p).map f).sum ≤ (l.map f).sum
  | [] => Nat.le_refl _
  | x :: l => by
    have ih := sum_filter_lt f p l
    rw [List.filter_cons]
    split
    · rw [List.map_cons, List.sum_cons, List.map_cons, List.sum_cons]
      omega
    · rw [List.map_cons, List.sum_cons]
      omega
theorem sum_filter_mem {α : Type} (f : α → Nat) (p : α → Bool) : ∀ (l : List α) (y : α), y ∈ l → p y = false → ((l.filter p).map f).sum + f y ≤ (l.map f).sum
  | [], y, h, _ => by simp at h
  | x :: l, y, h, hp => by
    rw [List.filter_cons]
    rcases List.mem_cons.mp h with rfl | h
    · rw [if_neg (by rw [hp]; exact Bool.false_ne_true), List.map_cons, List.sum_cons]
      have := sum_filter_lt f p l
      omega
    · have ih := sum_filter_mem f p l y h hp
      split
      · rw [List.map_cons, List.sum_cons, List.map_cons, List.sum_cons]
        omega
      · rw [List.map_cons, List.sum_cons]
        omega
end WH
namespace WH
/-! ### read from the right: all turned -/
def mir (X : List Nat → Prop) : List Nat → Prop := fun t => X t.reverse
theorem mir_mir (X : List Nat → Prop) : mir (mir X) = X := by
  funext t
  show X t.reverse.reverse = X t
  rw [List.reverse_reverse]
def RightFree (X : List Nat → Prop) : Prop := LeftFree (mir X)
theorem Made.mir {X : List Nat → Prop} {t : List Nat} (m : Made X t) : Made (mir X) t.reverse := by
  induction m with
  | nil => exact .nil
  | @app x t hx _ ih =>
    rw [List.reverse_append]
    exact ih.cat (.one (show X x.reverse.reverse by rwa [List.reverse_reverse]))
theorem made_mir {X : List Nat → Prop} {t : List Nat} : Made (WH.mir X) t ↔ Made X t.reverse := by
  constructor
  · intro h
    have := h.mir
    rwa [mir_mir] at this
  · intro h
    have := h.mir
    rwa [List.reverse_reverse] at this
/-- cuts led from X0 to X, and all of them hold for the sets of a kind -/
structure CutF (F : (List Nat → Prop) → Prop) (X0 X : List Nat → Prop) : Prop where
  up : ∀ x, X0 x → Made X x
  dn : ∀ C, F C → (∀ x, X0 x → Made C x) → ∀ x, X x → Made C x
theorem CutF.refl {F : (List Nat → Prop) → Prop} (X : List Nat → Prop) : CutF F X X := ⟨fun _ h => .one h, fun _ _ h => h⟩
theorem CutF.stepL {F : (List Nat → Prop) → Prop} (hF : ∀ C, F C → LeftFree C) {X0 X Y : List Nat → Prop} (c : CutF F X0 X) {x t : List Nat} (hx : X x) (hy : X (x ++ t)) (ne : t ≠ []) (h1 : ∀ w, Y w → w = t ∨ X w) (h2 : ∀ w, X w → w ≠ x ++ t → Y w) (h3 : Y t) : CutF F X0 Y := by
  have hxt : x ≠ x ++ t := fun e => ne (by
    have : x ++ [] = x ++ t := by rw [List.append_nil]; exact e
    exact (List.append_cancel_left this).symm)
  have up : ∀ w, X w → Made Y w := fun w hw => by
    by_cases e : w = x ++ t
    · rw [e]
      exact .app (h2 x hx hxt) (.one h3)
    · exact .one (h2 w hw e)
  refine ⟨fun w hw => (c.up w hw).sub up, fun C L hC w hw => ?_⟩
  rcases h1 w hw with rfl | h
  · exact (hF C L).cancel (c.dn C L hC x hx) (c.dn C L hC _ hy)
  · exact c.dn C L hC w h
theorem CutF.stepR {F : (List Nat → Prop) → Prop} (hF : ∀ C, F C → RightFree C) {X0 X Y : List Nat → Prop} (c : CutF F X0 X) {x t : List Nat} (hx : X x) (hy : X (t ++ x)) (ne : t ≠ []) (h1 : ∀ w, Y w → w = t ∨ X w) (h2 : ∀ w, X w → w ≠ t ++ x → Y w) (h3 : Y t) : CutF F X0 Y := by
  have hxt : x ≠ t ++ x := fun e => ne (by
    have : [] ++ x = t ++ x := e
    exact (List.append_cancel_right this).symm)
  have up : ∀ w, X w → Made Y w := fun w hw => by
    by_cases e : w = t ++ x
    · rw [e]
      exact .app h3 (.one (h2 x hx hxt))
    · exact .one (h2 w hw e)
  refine ⟨fun w hw => (c.up w hw).sub up, fun C L hC w hw => ?_⟩
  rcases h1 w hw with rfl | h
  · have a := (c.dn C L hC x hx).mir
    have b := (c.dn C L hC _ hy).mir
    rw [List.reverse_append] at b
    have := LeftFree.cancel (hF C L) a b
    rw [made_mir, List.reverse_reverse] at this
    exact this
  · exact c.dn C L hC w h
theorem CutF.end {F : (List Nat → Prop) → Prop} {X0 X Y : List Nat → Prop} (a : CutF F X0 X) (b : CutF F X0 Y) (fx : F X) (fy : F Y) (hF : (∀ C, F C → LeftFree C) ∨ (∀ C, F C → RightFree C)) (w : List Nat) : X w ↔ Y w := by
  rcases hF with hF | hF
  · exact ⟨(hF X fx).same (hF Y fy) (a.dn Y fy b.up) (b.dn X fx a.up) w, (hF Y fy).same (hF X fx) (b.dn X fx a.up) (a.dn Y fy b.up) w⟩
  · have e1 : ∀ x, mir X x → Made (mir Y) x := fun x hx => made_mir.mpr (a.dn Y fy b.up _ hx)
    have e2 : ∀ x, mir Y x → Made (mir X) x := fun x hx => made_mir.mpr (b.dn X fx a.up _ hx)
    have k1 := LeftFree.same (hF X fx) (hF Y fy) e1 e2 w.reverse
    have k2 := LeftFree.same (hF Y fy) (hF X fx) e2 e1 w.reverse
    unfold mir at k1 k2
    rw [List.reverse_reverse] at k1 k2
    exact ⟨k1, k2⟩
end WH
namespace WH
/-! ### read in one way -/
abbrev Row (X : List Nat → Prop) (u : List (List Nat)) : Prop := ∀ x ∈ u, X x
structure Free (X : List Nat → Prop) : Prop where
  ne : ∀ x, X x → x ≠ []
  un : ∀ u v : List (List Nat), Row X u → Row X v → u.flatten = v.flatten → u = v
theorem Row.cons {X : List Nat → Prop} {x : List Nat} {u : List (List Nat)} (h : X x) (hu : Row X u) : Row X (x :: u) := fun y hy => by
  rcases List.mem_cons.mp hy with rfl | hy
  · exact h
  · exact hu y hy
theorem Row.app {X : List Nat → Prop} {u v : List (List Nat)} (hu : Row X u) (hv : Row X v) : Row X (u ++ v) := fun y hy => by
  rcases List.mem_append.mp hy with hy | hy
  · exact hu y hy
  · exact hv y hy
theorem Row.tail {X : List Nat → Prop} {x : List Nat} {u : List (List Nat)} (h : Row X (x :: u)) : Row X u := fun y hy => h y (List.mem_cons_of_mem _ hy)
theorem Row.head {X : List Nat → Prop} {x : List Nat} {u : List (List Nat)} (h : Row X (x :: u)) : X x := h x List.mem_cons_self
theorem Row.nil {X : List Nat → Prop} : Row X [] := fun y hy => absurd hy List.not_mem_nil
theorem made_row {X : List Nat → Prop} {t : List Nat} (h : Made X t) : ∃ u : List (List Nat), Row X u ∧ u.flatten = t := by
  induction h with
  | nil => exact ⟨[], Row.nil, rfl⟩
  | @app x t hx _ ih =>
    obtain ⟨u, h1, h2⟩ := ih
    exact ⟨x :: u, Row.cons hx h1, by rw [List.flatten_cons, h2]⟩
theorem row_made {X : List Nat → Prop} : ∀ {u : List (List Nat)}, Row X u → Made X u.flatten
  | [], _ => .nil
  | x :: u, h => by
    rw [List.flatten_cons]
    exact .app h.head (row_made h.tail)
theorem Free.cutx {C : List Nat → Prop} (F : Free C) {x t r1 r2 : List Nat} (hx : Made C x) (hy : Made C (x ++ t)) (h1 : Made C r1) (h2 : Made C r2) (ne : t ≠ []) (e : (x ++ t) ++ r1 = x ++ r2) : Made C t := by
  obtain ⟨cx, a1, a2⟩ := made_row hx
  obtain ⟨cy, b1, b2⟩ := made_row hy
  obtain ⟨c1, d1, d2⟩ := made_row h1
  obtain ⟨c2, e1, e2⟩ := made_row h2
  have k := F.un (cy ++ c1) (cx ++ c2) (b1.app d1) (a1.app e1) (by rw [List.flatten_append, List.flatten_append, b2, d2, a2, e2, e])
  rcases List.append_eq_append_iff.mp k with ⟨a', k1, k2⟩ | ⟨c', k1, k2⟩
  · have := congrArg (fun z => z.flatten.length) k1
    simp only [List.flatten_append, List.length_append, a2, b2] at this
    have : 1 ≤ t.length := List.length_pos_iff.mpr ne
    omega
  · have k3 := congrArg List.flatten k1
    rw [List.flatten_append, b2, a2] at k3
    have k4 := List.append_cancel_left k3
    rw [k4]
    exact row_made fun y hy => b1 y (by rw [k1]; exact List.mem_append_right _ hy)
theorem CutF.stepF {X0 X Y : List Nat → Prop} (c : CutF Free X0 X) {x t r1 r2 : List Nat} (hx : X x) (hy : X (x ++ t)) (ne : t ≠ []) (m1 : Made X r1) (m2 : Made X r2) (e : (x ++ t) ++ r1 = x ++ r2)
    (h1 : ∀ w, Y w → w = t ∨ X w) (h2 : ∀ w, X w → w ≠ x ++ t → Y w) (h3 : Y t) : CutF Free X0 Y := by
  have hxt : x ≠ x ++ t := fun e => ne (by
    have : x ++ [] = x ++ t := by rw [List.append_nil]; exact e
    exact (List.append_cancel_left this).symm)
  have up : ∀ w, X w → Made Y w := fun w hw => by
    by_cases e : w = x ++ t
    · rw [e]
      exact .app (h2 x hx hxt) (.one h3)
    · exact .one (h2 w hw e)
  refine ⟨fun w hw => (c.up w hw).sub up, fun C L hC w hw => ?_⟩
  have k := c.dn C L hC
  rcases h1 w hw with rfl | h
  · exact L.cutx (k x hx) (k _ hy) (m1.sub k) (m2.sub k) ne e
  · exact k w h
theorem Free.same {X Y : List Nat → Prop} (L : Free X) (M : Free Y) (h1 : ∀ x, X x → Made Y x) (h2 : ∀ y, Y y → Made X y) : ∀ w, X w → Y w := by
  intro w hw
  obtain ⟨u, u1, u2⟩ := made_row (h1 w hw)
  match u, u1, u2 with
  | [], _, u2 => exact absurd u2.symm (L.ne _ hw)
  | y :: u, u1, u2 =>
    obtain ⟨p, p1, p2⟩ := made_row (h2 y u1.head)
    obtain ⟨q, q1, q2⟩ := made_row ((row_made u1.tail).sub h2)
    rw [List.flatten_cons] at u2
    have k := L.un (p ++ q) [w] (p1.app q1) (Row.cons hw Row.nil) (by rw [List.flatten_append, p2, q2, u2]; simp)
    have hp : p ≠ [] := fun z => M.ne y u1.head (by rw [← p2, z]; rfl)
    match p, hp, k, p2 with
    | a :: p, _, k, p2 =>
      obtain ⟨rfl, k2⟩ := List.cons.inj k
      obtain ⟨rfl, rfl⟩ := List.append_eq_nil_iff.mp k2
      have : a = y := by simpa using p2
      rw [this]
      exact u1.head
theorem CutF.endF {X0 X Y : List Nat → Prop} (a : CutF Free X0 X) (b : CutF Free X0 Y) (fx : Free X) (fy : Free Y) (w : List Nat) : X w ↔ Y w :=
  ⟨fx.same fy (a.dn Y fy b.up) (b.dn X fx a.up) w, fy.same fx (b.dn X fx a.up) (a.dn Y fy b.up) w⟩
/-- a text with readings that begin with unlike words -/
def Conf (X : List Nat → Prop) (T : List Nat) : Prop := ∃ x y a b, X x ∧ X y ∧ x ≠ y ∧ Row X a ∧ Row X b ∧ x ++ a.flatten = T ∧ y ++ b.flatten = T
theorem conf_of {X : List Nat → Prop} (ne : ∀ x, X x → x ≠ []) : ∀ {u v : List (List Nat)}, Row X u → Row X v → u.flatten = v.flatten → u ≠ v → ∃ T, Conf X T ∧ T.length ≤ u.flatten.length
  | [], [], _, _, _, h => absurd rfl h
  | [], y :: v, _, hv, e, _ => by
    have : y = [] := by
      have := e.symm
      rw [List.flatten_cons] at this
      exact (List.append_eq_nil_iff.mp this).1
    exact absurd this (ne _ hv.head)
  | x :: u, [], hu, _, e, _ => by
    have : x = [] := by
      rw [List.flatten_cons] at e
      exact (List.append_eq_nil_iff.mp e).1
    exact absurd this (ne _ hu.head)
  | x :: u, y :: v, hu, hv, e, h => by
    by_cases c : x = y
    · subst c
      have e' : u.flatten = v.flatten := by
        rw [List.flatten_cons, List.flatten_cons] at e
        exact List.append_cancel_left e
      obtain ⟨T, h1, h2⟩ := conf_of ne hu.tail hv.tail e' fun z => h (by rw [z])
      refine ⟨T, h1, ?_⟩
      rw [List.flatten_cons, List.length_append]
      omega
    · exact ⟨(x :: u).flatten, ⟨x, y, u, v, hu.head, hv.head, c, hu.tail, hv.tail, rfl, by rw [e]; rfl⟩, Nat.le_refl _⟩
theorem Free.of {X : List Nat → Prop} (ne : ∀ x, X x → x ≠ []) (h : ∀ T, ¬ Conf X T) : Free X := ⟨ne, fun u v hu hv e => Classical.byContradiction fun c => by
  obtain ⟨T, h1, _⟩ := conf_of ne hu hv e c
  exact h T h1⟩
theorem Free.noConf {X : List Nat → Prop} (F : Free X) (T : List Nat) : ¬ Conf X T := by
  rintro ⟨x, y, a, b, hx, hy, ne, ha, hb, e1, e2⟩
  have := F.un (x :: a) (y :: b) (Row.cons hx ha) (Row.cons hy hb) (by rw [List.flatten_cons, List.flatten_cons, e1, e2])
  exact ne (List.cons.inj this).1
/-- a least one: its readings begin unlike -/
theorem least_heads {X : List Nat → Prop} (ne : ∀ x, X x → x ≠ []) {T : List Nat} (least : ∀ S, Conf X S → T.length ≤ S.length) {x y : List Nat} {u v : List (List Nat)} (hu : Row X (x :: u)) (hv : Row X (y :: v)) (e1 : (x :: u).flatten = T) (e2 : (y :: v).flatten = T) (d : x :: u ≠ y :: v) : x ≠ y := by
  rintro rfl
  have e : u.flatten = v.flatten := by
    have := e1.trans e2.symm
    rw [List.flatten_cons, List.flatten_cons] at this
    exact List.append_cancel_left this
  obtain ⟨S, h1, h2⟩ := conf_of ne hu.tail hv.tail e fun z => d (by rw [z])
  have := least S h1
  have hx : 1 ≤ x.length := List.length_pos_iff.mpr (ne _ hu.head)
  rw [← e1, List.flatten_cons, List.length_append] at this
  omega
/-! ### rests -/
def Meet (X : List Nat → Prop) (r : List Nat) : Prop := ∃ a b, Row X a ∧ Row X b ∧ r ++ a.flatten = b.flatten
theorem Meet.nil {X : List Nat → Prop} : Meet X [] := ⟨[], [], Row.nil, Row.nil, rfl⟩
theorem Meet.more {X : List Nat → Prop} {w r r' : List Nat} (hw : X w) (h : r = w ++ r') (m : Meet X r') : Meet X r := by
  obtain ⟨a, b, ha, hb, e⟩ := m
  exact ⟨a, w :: b, ha, Row.cons hw hb, by rw [h, List.flatten_cons, ← e, List.append_assoc]⟩
theorem Meet.less {X : List Nat → Prop} {w r r' : List Nat} (hw : X w) (h : w = r ++ r') (m : Meet X r') : Meet X r := by
  obtain ⟨a, b, ha, hb, e⟩ := m
  exact ⟨b, w :: a, hb, Row.cons hw ha, by rw [List.flatten_cons, h, ← e, List.append_assoc]⟩
theorem meet_conf {X : List Nat → Prop} {x t : List Nat} (hx : X x) (hy : X (x ++ t)) (ne : t ≠ []) (m : Meet X t) : ∃ r1 r2, Made X r1 ∧ Made X r2 ∧ (x ++ t) ++ r1 = x ++ r2 := by
  obtain ⟨a, b, ha, hb, e⟩ := m
  exact ⟨_, _, row_made ha, row_made hb, by rw [List.append_assoc, e]⟩
/-- of two unlike words that begin one text, one begins the other one -/
theorem conf_meet {X : List Nat → Prop} {T : List Nat} (h : Conf X T) : ∃ x t a, X x ∧ X (x ++ t) ∧ t ≠ [] ∧ Row X a ∧ T = x ++ t ++ a.flatten ∧ ∃ b, Row X b ∧ t ++ a.flatten = b.flatten := by
  obtain ⟨x, y, a, b, hx, hy, ne, ha, hb, e1, e2⟩ := h
  rcases List.append_eq_append_iff.mp (e1.trans e2.symm) with ⟨t, k1, k2⟩ | ⟨t, k1, k2⟩
  · have tn : t ≠ [] := fun z => ne (by rw [k1, z, List.append_nil])
    refine ⟨x, t, b, hx, by rw [← k1]; exact hy, tn, hb, by rw [← k1, e2], a, ha, k2.symm⟩
  · have tn : t ≠ [] := fun z => ne (by rw [k1, z, List.append_nil])
    refine ⟨y, t, a, hy, by rw [← k1]; exact hx, tn, ha, by rw [← k1, e1], b, hb, k2.symm⟩
/-! ### a search over rests: what waits has a number of letters and a rest -/
def Cov (q : List (Nat × List Nat)) (seen : List Nat → Prop) (L : List Nat → Nat) (r : List Nat) (c : Nat) : Prop := (seen r ∧ L r ≤ c) ∨ ∃ p ∈ q, p.2 = r ∧ p.1 ≤ c
structure Cl (X : List Nat → Prop) (q : List (Nat × List Nat)) (seen : List Nat → Prop) (L : List Nat → Nat) : Prop where
  nil : ¬ seen []
  more : ∀ r, seen r → ∀ w r', X w → r = w ++ r' → Cov q seen L r' (L r)
  less : ∀ r, seen r → ∀ w r', X w → w = r ++ r' → Cov q seen L r' (L r + r'.length)
theorem Cl.walk {X : List Nat → Prop} {q : List (Nat × List Nat)} {seen : List Nat → Prop} {L : List Nat → Nat} (S : Cl X q seen L) : ∀ (n : Nat) (a b : List (List Nat)) (r : List Nat) (c : Nat), a.length + b.length ≤ n → Row X a → Row X b → r ++ a.flatten = b.flatten → Cov q seen L r c → ∃ p ∈ q, p.1 ≤ c + a.flatten.length := by
  intro n
  induction n with
  | zero =>
    intro a b r c hn ha hb e hc
    have ea : a = [] := List.eq_nil_of_length_eq_zero (by omega)
    have eb : b = [] := List.eq_nil_of_length_eq_zero (by omega)
    subst ea eb
    have er : r = [] := by simpa using e
    subst er
    rcases hc with ⟨h, _⟩ | ⟨p, h1, _, h3⟩
    · exact absurd h S.nil
    · exact ⟨p, h1, by simpa using h3⟩
  | succ n ih =>
    intro a b r c hn ha hb e hc
    rcases hc with ⟨h, hl⟩ | ⟨p, h1, _, h3⟩
    · match b, hb, e, hn with
      | [], _, e, _ =>
        have er : r = [] := (List.append_eq_nil_iff.mp e).1
        subst er
        exact absurd h S.nil
      | w :: b, hb, e, hn =>
        rw [List.flatten_cons] at e
        rw [List.length_cons] at hn
        rcases List.append_eq_append_iff.mp e with ⟨r', k1, k2⟩ | ⟨r', k1, k2⟩
        · -- the word is longer
          have hc' := S.less r h w r' hb.head k1
          obtain ⟨p, p1, p2⟩ := ih b a r' _ (by omega) hb.tail ha k2.symm hc'
          refine ⟨p, p1, ?_⟩
          have := congrArg List.length k2
          rw [List.length_append] at this
          omega
        · have hc' := S.more r h w r' hb.head k1
          obtain ⟨p, p1, p2⟩ := ih a b r' _ (by omega) ha hb.tail k2.symm hc'
          exact ⟨p, p1, by omega⟩
    · exact ⟨p, h1, by omega⟩
/-- all pairs of words are there, too -/
structure Srch (X : List Nat → Prop) (q : List (Nat × List Nat)) (seen : List Nat → Prop) (L : List Nat → Nat) : Prop extends Cl X q seen L where
  ini : ∀ x t, X x → X (x ++ t) → t ≠ [] → Cov q seen L t (x ++ t).length
  low : ∀ r, seen r → ∀ p ∈ q, L r ≤ p.1
theorem Srch.conf {X : List Nat → Prop} {q : List (Nat × List Nat)} {seen : List Nat → Prop} {L : List Nat → Nat} (S : Srch X q seen L) {T : List Nat} (h : Conf X T) : ∃ p ∈ q, p.1 ≤ T.length := by
  obtain ⟨x, t, a, hx, hy, tn, ha, rfl, b, hb, e⟩ := conf_meet h
  obtain ⟨p, p1, p2⟩ := S.walk _ a b t _ (Nat.le_refl _) ha hb e (S.ini x t hx hy tn)
  exact ⟨p, p1, by rw [List.length_append]; exact p2⟩
theorem Srch.free {X : List Nat → Prop} {seen : List Nat → Prop} {L : List Nat → Nat} (ne : ∀ x, X x → x ≠ []) (S : Srch X [] seen L) : Free X := Free.of ne fun T h => by
  obtain ⟨p, hp, _⟩ := S.conf h
  exact absurd hp List.not_mem_nil
theorem Cov.mono {q q' : List (Nat × List Nat)} {seen seen' : List Nat → Prop} {L L' : List Nat → Nat} (h1 : ∀ r, seen r → seen' r ∧ L' r ≤ L r) (h2 : ∀ p ∈ q, Cov q' seen' L' p.2 p.1) {r : List Nat} {c : Nat} (h : Cov q seen L r c) : Cov q' seen' L' r c := by
  rcases h with ⟨a, b⟩ | ⟨p, a, rfl, b⟩
  · exact .inl ⟨(h1 r a).1, Nat.le_trans (h1 r a).2 b⟩
  · rcases h2 p a with ⟨x, y⟩ | ⟨p', x, y, z⟩
    · exact .inl ⟨x, Nat.le_trans y b⟩
    · exact .inr ⟨p', x, y, Nat.le_trans z b⟩
/-- one that was seen is taken away -/
theorem Cl.drop {X : List Nat → Prop} {q q' : List (Nat × List Nat)} {seen : List Nat → Prop} {L : List Nat → Nat} (S : Cl X q seen L) {p : Nat × List Nat} (hq : ∀ p' ∈ q, p' = p ∨ p' ∈ q') (hs : seen p.2) (hl : L p.2 ≤ p.1) : Cl X q' seen L ∧ ∀ r c, Cov q seen L r c → Cov q' seen L r c := by
  have mo : ∀ r c, Cov q seen L r c → Cov q' seen L r c := fun r c h => h.mono (fun r hr => ⟨hr, Nat.le_refl _⟩) fun p' hp' => by
    rcases hq p' hp' with rfl | h
    · exact .inl ⟨hs, hl⟩
    · exact .inr ⟨p', h, rfl, Nat.le_refl _⟩
  exact ⟨⟨S.nil, fun r h w r' hw e => mo _ _ (S.more r h w r' hw e), fun r h w r' hw e => mo _ _ (S.less r h w r' hw e)⟩, mo⟩
/-- a new one is taken away, and what it leads to is put there -/
theorem Cl.step {X : List Nat → Prop} {q q' : List (Nat × List Nat)} {seen : List Nat → Prop} {L : List Nat → Nat} (S : Cl X q seen L) {p : Nat × List Nat} (hq : ∀ p' ∈ q, p' = p ∨ p' ∈ q') (hs : ¬ seen p.2) (hn : p.2 ≠ [])
    (m : ∀ w r', X w → p.2 = w ++ r' → ∃ p' ∈ q', p'.2 = r' ∧ p'.1 ≤ p.1) (l : ∀ w r', X w → w = p.2 ++ r' → ∃ p' ∈ q', p'.2 = r' ∧ p'.1 ≤ p.1 + r'.length) :
    let L' : List Nat → Nat := fun r => if r = p.2 then p.1 else L r
    let seen' : List Nat → Prop := fun r => r = p.2 ∨ seen r
    Cl X q' seen' L' ∧ ∀ r c, Cov q seen L r c → Cov q' seen' L' r c := by
  intro L' seen'
  have same : ∀ r, seen r → L' r = L r := fun r hr => if_neg fun e => hs (by rw [← e]; exact hr)
  have mo : ∀ r c, Cov q seen L r c → Cov q' seen' L' r c := fun r c h => h.mono (fun r hr => ⟨.inr hr, by rw [same r hr]; exact Nat.le_refl _⟩) fun p' hp' => by
    rcases hq p' hp' with rfl | h
    · exact .inl ⟨.inl rfl, by show (if _ then _ else _) ≤ _; rw [if_pos rfl]; exact Nat.le_refl _⟩
    · exact .inr ⟨p', h, rfl, Nat.le_refl _⟩
  have lp : L' p.2 = p.1 := if_pos rfl
  refine ⟨⟨fun h => h.elim (fun e => hn e.symm) S.nil, fun r h w r' hw e => ?_, fun r h w r' hw e => ?_⟩, mo⟩
  · rcases h with rfl | h
    · obtain ⟨p', a, b, c⟩ := m w r' hw e
      exact .inr ⟨p', a, b, by rw [lp]; exact c⟩
    · rw [same r h]
      exact mo _ _ (S.more r h w r' hw e)
  · rcases h with rfl | h
    · obtain ⟨p', a, b, c⟩ := l w r' hw e
      exact .inr ⟨p', a, b, by rw [lp]; exact c⟩
    · rw [same r h]
      exact mo _ _ (S.less r h w r' hw e)
/-- two rows that begin unlike: one makes the text, the other one all but the rest -/
def Ahd (X : List Nat → Prop) (T r : List Nat) : Prop := ∃ x y a b, X x ∧ X y ∧ x ≠ y ∧ Row X a ∧ Row X b ∧ x ++ a.flatten = T ∧ y ++ b.flatten ++ r = T
theorem Ahd.ini {X : List Nat → Prop} {x t : List Nat} (hx : X x) (hy : X (x ++ t)) (ne : t ≠ []) : Ahd X (x ++ t) t :=
  ⟨x ++ t, x, [], [], hy, hx, fun e => ne (by
    have : x ++ t = x ++ [] := by rw [List.append_nil]; exact e
    exact List.append_cancel_left this), Row.nil, Row.nil, by simp, by simp⟩
theorem Ahd.more {X : List Nat → Prop} {T r w r' : List Nat} (h : Ahd X T r) (hw : X w) (e : r = w ++ r') : Ahd X T r' := by
  obtain ⟨x, y, a, b, hx, hy, ne, ha, hb, e1, e2⟩ := h
  refine ⟨x, y, a, b ++ [w], hx, hy, ne, ha, hb.app (Row.cons hw Row.nil), e1, ?_⟩
  rw [← e2, e]
  simp [List.append_assoc]
theorem Ahd.less {X : List Nat → Prop} {T r w r' : List Nat} (h : Ahd X T r) (hw : X w) (e : w = r ++ r') : Ahd X (T ++ r') r' := by
  obtain ⟨x, y, a, b, hx, hy, ne, ha, hb, e1, e2⟩ := h
  refine ⟨y, x, b ++ [w], a, hy, hx, Ne.symm ne, hb.app (Row.cons hw Row.nil), ha, ?_, by rw [e1]⟩
  rw [← e2, e]
  simp [List.append_assoc]
theorem Ahd.conf {X : List Nat → Prop} {T : List Nat} (h : Ahd X T []) : Conf X T := by
  obtain ⟨x, y, a, b, hx, hy, ne, ha, hb, e1, e2⟩ := h
  exact ⟨x, y, a, b, hx, hy, ne, ha, hb, e1, by rw [← e2, List.append_nil]⟩
end WH
namespace WH
/-! ### the least text by its length, then by the alphabet -/
def sle (a b : List Nat) : Prop := a.length < b.length ∨ (a.length = b.length ∧ ¬ b < a)
theorem sle.refl (a : List Nat) : sle a a := .inr ⟨rfl, List.lt_irrefl a⟩
theorem sle.len {a b : List Nat} (h : sle a b) : a.length ≤ b.length := by
  rcases h with h | h <;> omega
theorem sle.trans {a b c : List Nat} (h : sle a b) (k : sle b c) : sle a c := by
  rcases h with h | ⟨h, h'⟩
  · exact .inl (by have := k.len; omega)
  · rcases k with k | ⟨k, k'⟩
    · exact .inl (by omega)
    · refine .inr ⟨by omega, fun e => ?_⟩
      exact k' (Std.lt_of_lt_of_le e (List.not_lt.mp h'))
theorem sle.anti {a b : List Nat} (h : sle a b) (k : sle b a) : a = b := by
  have l1 := h.len
  have l2 := k.len
  rcases h with h | ⟨_, h⟩
  · omega
  · rcases k with k | ⟨_, k⟩
    · omega
    · exact Std.le_antisymm (List.not_lt.mp h) (List.not_lt.mp k)
theorem sle.total (a b : List Nat) : sle a b ∨ sle b a := by
  by_cases c : a.length < b.length
  · exact .inl (.inl c)
  · by_cases d : b.length < a.length
    · exact .inr (.inl d)
    · by_cases e : b < a
      · exact .inr (.inr ⟨by omega, fun g => by
          have := Std.lt_of_lt_of_le e (Std.le_of_lt g)
          exact List.lt_irrefl _ this⟩)
      · exact .inl (.inr ⟨by omega, e⟩)
theorem sle.app (a r : List Nat) : sle a (a ++ r) := by
  cases r with
  | nil => rw [List.append_nil]; exact .refl a
  | cons x r => exact .inl (by rw [List.length_append, List.length_cons]; omega)
theorem lt_app : ∀ {a b : List Nat}, a.length = b.length → ∀ r s : List Nat, a ++ r < b ++ s ↔ a < b ∨ (a = b ∧ r < s)
  | [], [], _, r, s => by simp
  | x :: a, y :: b, h, r, s => by
    rw [List.cons_append, List.cons_append, List.cons_lt_cons_iff, List.cons_lt_cons_iff, lt_app (by simpa using h) r s]
    constructor
    · rintro (g | ⟨rfl, g | ⟨rfl, g⟩⟩)
      · exact .inl (.inl g)
      · exact .inl (.inr ⟨rfl, g⟩)
      · exact .inr ⟨rfl, g⟩
    · rintro ((g | ⟨rfl, g⟩) | ⟨e, g⟩)
      · exact .inl g
      · exact .inr ⟨rfl, .inl g⟩
      · obtain ⟨rfl, rfl⟩ := List.cons.inj e
        exact .inr ⟨rfl, .inr ⟨rfl, g⟩⟩
theorem sle.mono {a b : List Nat} (h : sle a b) (r : List Nat) : sle (a ++ r) (b ++ r) := by
  rcases h with h | ⟨h, k⟩
  · exact .inl (by rw [List.length_append, List.length_append]; omega)
  · refine .inr ⟨by rw [List.length_append, List.length_append]; omega, fun e => ?_⟩
    rcases (lt_app h.symm r r).mp e with e | ⟨_, e⟩
    · exact k e
    · exact List.lt_irrefl _ e
/-- all the paths of a search, by texts -/
def CovS (q : List (List Nat × List Nat)) (seen : List Nat → Prop) (L : List Nat → List Nat) (r c : List Nat) : Prop := (seen r ∧ sle (L r) c) ∨ ∃ p ∈ q, p.2 = r ∧ sle p.1 c
structure ClS (X : List Nat → Prop) (q : List (List Nat × List Nat)) (seen : List Nat → Prop) (L : List Nat → List Nat) : Prop where
  nil : ¬ seen []
  more : ∀ r, seen r → ∀ w r', X w → r = w ++ r' → CovS q seen L r' (L r)
  less : ∀ r, seen r → ∀ w r', X w → w = r ++ r' → CovS q seen L r' (L r ++ r')
theorem ClS.walk {X : List Nat → Prop} {q : List (List Nat × List Nat)} {seen : List Nat → Prop} {L : List Nat → List Nat} (S : ClS X q seen L) : ∀ (n : Nat) (a b : List (List Nat)) (r c : List Nat), a.length + b.length ≤ n → Row X a → Row X b → r ++ a.flatten = b.flatten → CovS q seen L r c → ∃ p ∈ q, sle p.1 (c ++ a.flatten) := by
  intro n
  induction n with
  | zero =>
    intro a b r c hn ha hb e hc
    have ea : a = [] := List.eq_nil_of_length_eq_zero (by omega)
    have eb : b = [] := List.eq_nil_of_length_eq_zero (by omega)
    subst ea eb
    have er : r = [] := by simpa using e
    subst er
    rcases hc with ⟨h, _⟩ | ⟨p, h1, _, h3⟩
    · exact absurd h S.nil
    · exact ⟨p, h1, by simpa using h3⟩
  | succ n ih =>
    intro a b r c hn ha hb e hc
    rcases hc with ⟨h, hl⟩ | ⟨p, h1, _, h3⟩
    · match b, hb, e, hn with
      | [], _, e, _ =>
        have er : r = [] := (List.append_eq_nil_iff.mp e).1
        subst er
        exact absurd h S.nil
      | w :: b, hb, e, hn =>
        rw [List.flatten_cons] at e
        rw [List.length_cons] at hn
        rcases List.append_eq_append_iff.mp e with ⟨r', k1, k2⟩ | ⟨r', k1, k2⟩
        · -- the word is longer
          have hc' := S.less r h w r' hb.head k1
          obtain ⟨p, p1, p2⟩ := ih b a r' _ (by omega) hb.tail ha k2.symm hc'
          refine ⟨p, p1, ?_⟩
          rw [k2, ← List.append_assoc]
          exact p2.trans ((hl.mono r').mono _)
        · have hc' := S.more r h w r' hb.head k1
          obtain ⟨p, p1, p2⟩ := ih a b r' _ (by omega) ha hb.tail k2.symm hc'
          exact ⟨p, p1, p2.trans (hl.mono _)⟩
    · exact ⟨p, h1, h3.trans (sle.app _ _)⟩
/-- all pairs of words are there, too -/
structure SrchS (X : List Nat → Prop) (q : List (List Nat × List Nat)) (seen : List Nat → Prop) (L : List Nat → List Nat) : Prop extends ClS X q seen L where
  ini : ∀ x t, X x → X (x ++ t) → t ≠ [] → CovS q seen L t (x ++ t)
  low : ∀ r, seen r → ∀ p ∈ q, sle (L r) p.1
theorem SrchS.conf {X : List Nat → Prop} {q : List (List Nat × List Nat)} {seen : List Nat → Prop} {L : List Nat → List Nat} (S : SrchS X q seen L) {T : List Nat} (h : Conf X T) : ∃ p ∈ q, sle p.1 T := by
  obtain ⟨x, t, a, hx, hy, tn, ha, rfl, b, hb, e⟩ := conf_meet h
  exact S.walk _ a b t _ (Nat.le_refl _) ha hb e (S.ini x t hx hy tn)
theorem SrchS.free {X : List Nat → Prop} {seen : List Nat → Prop} {L : List Nat → List Nat} (ne : ∀ x, X x → x ≠ []) (S : SrchS X [] seen L) : Free X := Free.of ne fun T h => by
  obtain ⟨p, hp, _⟩ := S.conf h
  exact absurd hp List.not_mem_nil
theorem CovS.mono {q q' : List (List Nat × List Nat)} {seen seen' : List Nat → Prop} {L L' : List Nat → List Nat} (h1 : ∀ r, seen r → seen' r ∧ sle (L' r) (L r)) (h2 : ∀ p ∈ q, CovS q' seen' L' p.2 p.1) {r c : List Nat} (h : CovS q seen L r c) : CovS q' seen' L' r c := by
  rcases h with ⟨a, b⟩ | ⟨p, a, rfl, b⟩
  · exact .inl ⟨(h1 r a).1, (h1 r a).2.trans b⟩
  · rcases h2 p a with ⟨x, y⟩ | ⟨p', x, y, z⟩
    · exact .inl ⟨x, y.trans b⟩
    · exact .inr ⟨p', x, y, z.trans b⟩
/-- one that was seen is taken away -/
theorem ClS.drop {X : List Nat → Prop} {q q' : List (List Nat × List Nat)} {seen : List Nat → Prop} {L : List Nat → List Nat} (S : ClS X q seen L) {p : List Nat × List Nat} (hq : ∀ p' ∈ q, p' = p ∨ p' ∈ q') (hs : seen p.2) (hl : sle (L p.2) p.1) : ClS X q' seen L ∧ ∀ r c, CovS q seen L r c → CovS q' seen L r c := by
  have mo : ∀ r c, CovS q seen L r c → CovS q' seen L r c := fun r c h => h.mono (fun r hr => ⟨hr, .refl _⟩) fun p' hp' => by
    rcases hq p' hp' with rfl | h
    · exact .inl ⟨hs, hl⟩
    · exact .inr ⟨p', h, rfl, .refl _⟩
  exact ⟨⟨S.nil, fun r h w r' hw e => mo _ _ (S.more r h w r' hw e), fun r h w r' hw e => mo _ _ (S.less r h w r' hw e)⟩, mo⟩
/-- a new one is taken away, and what it leads to is put there -/
theorem ClS.step {X : List Nat → Prop} {q q' : List (List Nat × List Nat)} {seen : List Nat → Prop} {L : List Nat → List Nat} (S : ClS X q seen L) {p : List Nat × List Nat} (hq : ∀ p' ∈ q, p' = p ∨ p' ∈ q') (hs : ¬ seen p.2) (hn : p.2 ≠ [])
    (m : ∀ w r', X w → p.2 = w ++ r' → ∃ p' ∈ q', p'.2 = r' ∧ sle p'.1 p.1) (l : ∀ w r', X w → w = p.2 ++ r' → ∃ p' ∈ q', p'.2 = r' ∧ sle p'.1 (p.1 ++ r')) :
    let L' : List Nat → List Nat := fun r => if r = p.2 then p.1 else L r
    let seen' : List Nat → Prop := fun r => r = p.2 ∨ seen r
    ClS X q' seen' L' ∧ ∀ r c, CovS q seen L r c → CovS q' seen' L' r c := by
  intro L' seen'
  have same : ∀ r, seen r → L' r = L r := fun r hr => if_neg fun e => hs (by rw [← e]; exact hr)
  have lp : L' p.2 = p.1 := if_pos rfl
  have mo : ∀ r c, CovS q seen L r c → CovS q' seen' L' r c := fun r c h => h.mono (fun r hr => ⟨.inr hr, by rw [same r hr]; exact .refl _⟩) fun p' hp' => by
    rcases hq p' hp' with rfl | h
    · exact .inl ⟨.inl rfl, by rw [lp]; exact .refl _⟩
    · exact .inr ⟨p', h, rfl, .refl _⟩
  refine ⟨⟨fun h => h.elim (fun e => hn e.symm) S.nil, fun r h w r' hw e => ?_, fun r h w r' hw e => ?_⟩, mo⟩
  · rcases h with rfl | h
    · obtain ⟨p', a, b, c⟩ := m w r' hw e
      exact .inr ⟨p', a, b, by rw [lp]; exact c⟩
    · rw [same r h]
      exact mo _ _ (S.more r h w r' hw e)
  · rcases h with rfl | h
    · obtain ⟨p', a, b, c⟩ := l w r' hw e
      exact .inr ⟨p', a, b, by rw [lp]; exact c⟩
    · rw [same r h]
      exact mo _ _ (S.less r h w r' hw e)
end WH
namespace WH
/-! ### what is made of shorter texts, and bases -/
def DecM (X : List Nat → Prop) (t : List Nat) : Prop := ∃ u v, u ≠ [] ∧ v ≠ [] ∧ Made X u ∧ Made X v ∧ t = u ++ v
def Bse (X : List Nat → Prop) (t : List Nat) : Prop := X t ∧ ¬ DecM X t
theorem Made.two {X : List Nat → Prop} (ne : ∀ x, X x → x ≠ []) {t : List Nat} (h : Made X t) (hn : t ≠ []) : X t ∨ DecM X t := by
  cases h with
  | nil => exact absurd rfl hn
  | @app x r hx hr =>
    by_cases c : r = []
    · subst c
      left
      rw [List.append_nil]
      exact hx
    · exact .inr ⟨x, r, ne x hx, c, .one hx, hr, rfl⟩
theorem Bse.gen {X : List Nat → Prop} (ne : ∀ x, X x → x ≠ []) : ∀ (n : Nat) {t : List Nat}, t.length ≤ n → Made X t → Made (Bse X) t := by
  intro n
  induction n with
  | zero =>
    intro t hl _
    have e : t = [] := List.eq_nil_of_length_eq_zero (by omega)
    subst e
    exact .nil
  | succ n ih =>
    intro t hl h
    by_cases hn : t = []
    · subst hn
      exact .nil
    · by_cases d : DecM X t
      · obtain ⟨u, v, un, vn, hu, hv, rfl⟩ := d
        rw [List.length_append] at hl
        have := List.length_pos_iff.mpr un
        have := List.length_pos_iff.mpr vn
        exact (ih (by omega) hu).cat (ih (by omega) hv)
      · rcases h.two ne hn with h | h
        · exact .one ⟨h, d⟩
        · exact absurd h d
theorem Bse.made {X : List Nat → Prop} (ne : ∀ x, X x → x ≠ []) (t : List Nat) : Made (Bse X) t ↔ Made X t :=
  ⟨fun h => h.sub fun x hx => .one hx.1, fun h => Bse.gen ne _ (Nat.le_refl _) h⟩
theorem DecM.same {X Y : List Nat → Prop} (e : ∀ t, Made X t → Made Y t) {t : List Nat} (h : DecM X t) : DecM Y t := by
  obtain ⟨u, v, un, vn, hu, hv, rfl⟩ := h
  exact ⟨u, v, un, vn, e _ hu, e _ hv, rfl⟩
theorem Bse.same {X Y : List Nat → Prop} (nx : ∀ x, X x → x ≠ []) (ny : ∀ x, Y x → x ≠ []) (e : ∀ t, Made X t ↔ Made Y t) {t : List Nat} (h : Bse X t) : Bse Y t := by
  have hm := (e t).mp (.one h.1)
  have nd : ¬ DecM Y t := fun d => h.2 (d.same fun t ht => (e t).mpr ht)
  exact ⟨(hm.two ny (nx t h.1)).resolve_right nd, nd⟩
/-- made of the others: made of shorter ones -/
theorem others_iff {X : List Nat → Prop} (ne : ∀ x, X x → x ≠ []) {w : List Nat} (hw : X w) : Made (fun x => X x ∧ x ≠ w) w ↔ DecM X w := by
  constructor
  · intro h
    obtain ⟨u, h1, h2⟩ := made_row h
    match u, h1, h2 with
    | [], _, h2 => exact absurd h2.symm (ne w hw)
    | [x], h1, h2 => exact absurd (by simpa using h2) h1.head.2
    | x :: y :: r, h1, h2 =>
      have hx := h1.head.1
      have hy := h1.tail.head.1
      refine ⟨x, (y :: r).flatten, ne x hx, fun e => ?_, .one hx, (row_made h1.tail).sub fun z hz => .one hz.1, by rw [← h2]; rfl⟩
      rw [List.flatten_cons] at e
      exact ne y hy (List.append_eq_nil_iff.mp e).1
  · rintro ⟨u, v, un, vn, hu, hv, e⟩
    have lu := List.length_pos_iff.mpr un
    have lv := List.length_pos_iff.mpr vn
    have key : ∀ {t : List Nat}, Made X t → t.length < w.length → Made (fun x => X x ∧ x ≠ w) t := by
      intro t ht
      induction ht with
      | nil => intro _; exact .nil
      | @app x r hx hr ih =>
        intro hl
        rw [List.length_append] at hl
        exact .app ⟨hx, fun z => by rw [z] at hl; omega⟩ (ih (by omega))
    have el := congrArg List.length e
    rw [List.length_append] at el
    have := (key hu (by omega)).cat (key hv (by omega))
    rwa [← e] at this
end WH
namespace WH
open PySem PySem.Spec PyProof.Rows L2
/-! ### stocks and the pool, as objects -/
def fW (t : Addr) : List (Str × V) := putF "_words" (.ref t) []
theorem fW_get (t : Addr) : (fW t).lookup ("_words" : Str) = some (.ref t) := by
  unfold fW
  rw [lookup_putF, if_pos rfl]
def StkAt (C : Addr) (H : Hp) (p : Addr) (ws : List Str) : Prop := ∃ dx t, H p = some (.ins C dx (fW t)) ∧ H t = some (.tup (ws.map V.str))
theorem StkAt.same {C : Addr} {H H' : Hp} {p : Addr} {ws : List Str} (h : StkAt C H p ws) (s : Same H H') : StkAt C H' p ws := by
  obtain ⟨dx, t, h1, h2⟩ := h
  exact ⟨dx, t, s _ _ h1, s _ _ h2⟩
def SameBut (p : Addr) (H H' : Hp) : Prop := ∀ b o, b ≠ p → H b = some o → H' b = some o
/-- what is at the pool: three numbers, at most n drawn ones -/
def PoolAt (H : Hp) (p : Addr) (n : Int) : Prop := ∃ p0 p1 p2 : Int, H p = some (.lst [.int p0, .int p1, .int p2]) ∧ 0 ≤ p0 ∧ 0 ≤ p1 ∧ p1 < 4611686018427387904 ∧ 0 ≤ p2 ∧ p2 ≤ n
theorem PoolAt.same {H H' : Hp} {p : Addr} {n : Int} (h : PoolAt H p n) (s : Same H H') : PoolAt H' p n := by
  obtain ⟨a, b, c, h1, h2⟩ := h
  exact ⟨a, b, c, s _ _ h1, h2⟩
theorem PoolAt.le {H : Hp} {p : Addr} {n m : Int} (h : PoolAt H p n) (l : n ≤ m) : PoolAt H p m := by
  obtain ⟨a, b, c, h1, h2, h3, h4, h5, h6⟩ := h
  exact ⟨a, b, c, h1, h2, h3, h4, h5, by omega⟩
theorem PoolAt.there {H : Hp} {p : Addr} {n : Int} (h : PoolAt H p n) : H p ≠ none := by
  obtain ⟨a, b, c, h1, h2⟩ := h
  rw [h1]
  exact Option.some_ne_none _
/-! ### data -/
inductive Dt where
  | non | bl (b : Bool) | int (i : Int) | str (x : Str)
  | lst (xs : List Dt) | tup (xs : List Dt) | stk (ws : List Str) | dic (ks : List Str) (xs : List Dt)
  /-- a dict that is changed no more -/
  | dct (mk : Program → World → Addr → List V → HO) (xs : List Dt)
/-- keys that are texts, with what they stand for -/
def kvZ (ks : List Str) (vs : List V) : List (Key × V) := (ks.zip vs).map fun p => (Sum.inr p.1, p.2)
/-- the class of stocks; the fragment, whose own tuples are data, too; program and world -/
structure CK where
  a : Addr
  k : PySem.W.Frag
  P : Program
  w : World
instance : Coe CK Addr := ⟨CK.a⟩
def TupAt (C : CK) (H : Hp) (a : Addr) (vs : List V) : Prop := SqT C.k H a vs
theorem tupO {C : CK} {H : Hp} {a : Addr} {vs : List V} (h : H a = some (.tup vs)) : TupAt C H a vs := .inl (.inl h)
theorem rdUp {C : CK} {H H' : Hp} {a : Addr} {vs : List V} (h : TupAt C H a vs) (s : Same H H') : TupAt C H' a vs := by
  rcases h with h | h
  · exact .inl (h.imp (s _ _) fun ⟨o, e⟩ => ⟨o, s _ _ e⟩)
  · exact .inr h
theorem sqRd {C : CK} {H : Hp} {a : Addr} {vs : List V} (h : TupAt C H a vs) : SqT C.k H a vs := h
mutual
inductive Rep (C : CK) (H : Hp) : V → Dt → Prop
  | non : Rep C H .non .non
  | bl (b : Bool) : Rep C H (.bl b) (.bl b)
  | int (i : Int) : Rep C H (.int i) (.int i)
  | str (x : Str) : Rep C H (.str x) (.str x)
  | lst {a : Addr} {vs : List V} {ds : List Dt} : H a = some (.lst vs) → RepL C H vs ds → Rep C H (.ref a) (.lst ds)
  | tup {a : Addr} {vs : List V} {ds : List Dt} : TupAt C H a vs → RepL C H vs ds → Rep C H (.ref a) (.tup ds)
  | stk {a : Addr} {ws : List Str} : StkAt C H a ws → Rep C H (.ref a) (.stk ws)
  | dic {a : Addr} {ks : List Str} {vs : List V} {ds : List Dt} : H a = some (.dK (kvZ ks vs)) → ks.length = vs.length → RepL C H vs ds → Rep C H (.ref a) (.dic ks ds)
  | dct {a : Addr} {od : Obj} {mk : Program → World → Addr → List V → HO} {vs : List V} {ds : List Dt} : H a = some (.frz od (mk C.P C.w a vs)) → RepL C H vs ds → Rep C H (.ref a) (.dct mk ds)
inductive RepL (C : CK) (H : Hp) : List V → List Dt → Prop
  | nil : RepL C H [] []
  | cons {v : V} {vs : List V} {d : Dt} {ds : List Dt} : Rep C H v d → RepL C H vs ds → RepL C H (v :: vs) (d :: ds)
end
mutual
theorem Rep.same {C : CK} {H H' : Hp} (s : Same H H') : ∀ {v : V} {d : Dt}, Rep C H v d → Rep C H' v d
  | _, _, .non => .non
  | _, _, .bl b => .bl b
  | _, _, .int i => .int i
  | _, _, .str x => .str x
  | _, _, .lst h r => .lst (s _ _ h) (RepL.same s r)
  | _, _, .tup h r => .tup (rdUp h s) (RepL.same s r)
  | _, _, .stk h => .stk (h.same s)
  | _, _, .dic h l r => .dic (s _ _ h) l (RepL.same s r)
  | _, _, .dct h r => .dct (s _ _ h) (RepL.same s r)
theorem RepL.same {C : CK} {H H' : Hp} (s : Same H H') : ∀ {vs : List V} {ds : List Dt}, RepL C H vs ds → RepL C H' vs ds
  | _, _, .nil => .nil
  | _, _, .cons h r => .cons (Rep.same s h) (RepL.same s r)
end
theorem RepL.len {C : CK} {H : Hp} : ∀ {vs : List V} {ds : List Dt}, RepL C H vs ds → vs.length = ds.length
  | _, _, .nil => rfl
  | _, _, .cons _ r => by
    rw [List.length_cons, List.length_cons, RepL.len r]
theorem RepL.app {C : CK} {H : Hp} : ∀ {vs us : List V} {ds es : List Dt}, RepL C H vs ds → RepL C H us es → RepL C H (vs ++ us) (ds ++ es)
  | _, _, _, _, .nil, q => q
  | _, _, _, _, .cons h r, q => .cons h (RepL.app r q)
theorem RepL.get {C : CK} {H : Hp} : ∀ {vs : List V} {ds : List Dt}, RepL C H vs ds → ∀ (i : Nat) (d : Dt), ds[i]? = some d → ∃ v, vs[i]? = some v ∧ Rep C H v d
  | _, _, .nil, i, d, h => by simp at h
  | _, _, .cons h r, 0, d, e => by
    simp at e
    subst e
    exact ⟨_, rfl, h⟩
  | _, _, .cons h r, i + 1, d, e => by
    obtain ⟨v, h1, h2⟩ := RepL.get r i d (by simpa using e)
    exact ⟨v, by simpa using h1, h2⟩
theorem RepL.getV {C : CK} {H : Hp} {vs : List V} {ds : List Dt} (r : RepL C H vs ds) (i : Nat) (v : V) (h : vs[i]? = some v) : ∃ d, ds[i]? = some d ∧ Rep C H v d := by
  have hl : i < ds.length := by
    have := (List.getElem?_eq_some_iff.mp h).1
    rw [r.len] at this
    exact this
  obtain ⟨u, h1, h2⟩ := r.get i ds[i] (List.getElem?_eq_getElem hl)
  rw [h] at h1
  obtain rfl := Option.some.inj h1
  exact ⟨_, List.getElem?_eq_getElem hl, h2⟩
theorem RepL.take {C : CK} {H : Hp} : ∀ {vs : List V} {ds : List Dt} (n : Nat), RepL C H vs ds → RepL C H (vs.take n) (ds.take n)
  | _, _, 0, _ => .nil
  | _, _, _ + 1, .nil => .nil
  | _, _, n + 1, .cons h r => .cons h (RepL.take n r)
theorem RepL.drop {C : CK} {H : Hp} : ∀ {vs : List V} {ds : List Dt} (n : Nat), RepL C H vs ds → RepL C H (vs.drop n) (ds.drop n)
  | _, _, 0, r => r
  | _, _, _ + 1, .nil => .nil
  | _, _, n + 1, .cons _ r => RepL.drop n r
theorem RepL.set {C : CK} {H : Hp} {v : V} {d : Dt} (h : Rep C H v d) : ∀ {vs : List V} {ds : List Dt} (n : Nat), RepL C H vs ds → RepL C H (vs.set n v) (ds.set n d)
  | _, _, _, .nil => .nil
  | _, _, 0, .cons _ r => .cons h r
  | _, _, n + 1, .cons g r => .cons g (RepL.set h n r)
theorem RepL.rev {C : CK} {H : Hp} : ∀ {vs : List V} {ds : List Dt}, RepL C H vs ds → RepL C H vs.reverse ds.reverse
  | _, _, .nil => .nil
  | _, _, .cons h r => by
    rw [List.reverse_cons, List.reverse_cons]
    exact (RepL.rev r).app (.cons h .nil)
class Enc (α : Type) where
  enc : α → Dt
open Enc (enc)
structure Stk where
  ws : List Str
structure Dic (α : Type) where
  kvs : List (Str × α)
structure T3 (α β γ : Type) where
  a : α
  b : β
  c : γ
structure T4 (α β γ δ : Type) where
  a : α
  b : β
  c : γ
  d : δ
instance : Enc Int := ⟨.int⟩
instance : Enc Bool := ⟨.bl⟩
instance : Enc Str := ⟨.str⟩
instance : Enc Unit := ⟨fun _ => .non⟩
instance : Enc Stk := ⟨fun s => .stk s.ws⟩
instance : Enc Dt := ⟨id⟩
instance {α : Type} [Enc α] : Enc (Dic α) := ⟨fun d => .dic (d.kvs.map (·.1)) (d.kvs.map fun p => enc p.2)⟩
instance {α : Type} [Enc α] : Enc (List α) := ⟨fun l => .lst (l.map enc)⟩
instance {α : Type} [Enc α] : Enc (Option α) := ⟨fun o => match o with | none => .non | some a => enc a⟩
instance {α β : Type} [Enc α] [Enc β] : Enc (α × β) := ⟨fun p => .tup [enc p.1, enc p.2]⟩
instance {α β γ : Type} [Enc α] [Enc β] [Enc γ] : Enc (T3 α β γ) := ⟨fun p => .tup [enc p.a, enc p.b, enc p.c]⟩
instance {α β γ δ : Type} [Enc α] [Enc β] [Enc γ] [Enc δ] : Enc (T4 α β γ δ) := ⟨fun p => .tup [enc p.a, enc p.b, enc p.c, enc p.d]⟩
/-- arguments -/
class EncL (α : Type) where
  encl : α → List Dt
open EncL (encl)
instance : EncL Unit := ⟨fun _ => []⟩
instance {α β : Type} [Enc α] [EncL β] : EncL (α × β) := ⟨fun p => enc p.1 :: encl p.2⟩
/-! ### what a piece of the program does, by data: n is how many numbers were drawn -/
abbrev M (α : Type) := Int → (α → Int → Prop) → Prop
abbrev ret {α : Type} (a : α) : M α := fun n Q => Q a n
abbrev bnd {α β : Type} (m : M α) (k : α → M β) : M β := fun n Q => m n fun a n' => k a n' Q
abbrev need {α : Type} (p : Prop) (m : M α) : M α := fun n Q => p ∧ m n Q
/-- a call that draws nothing -/
abbrev pc {α : Type} (m : M α) : M α := fun n Q => m 0 fun a _ => Q a n
/-! ### a def's frame -/
structure Fr where
  C : CK
  Hs0 : Hp
  H0 : Hp
  P : Option Addr
inductive Sd where
  | sh (d : Dt) | ow (xs : List Dt) | pl | ob (o : Addr → HO) | xn (a d : Addr) (w : Dt)
  /-- an own object o at r with own lists ds at ks behind it -/
  | nst (r : Addr) (o : HO) (ks : List Addr) (ds : List (List Dt))
  /-- an own object of data -/
  | om (mk : Program → World → Addr → List V → HO) (ds : List Dt)
  /-- whatever stays true as more becomes known -/
  | gh (P : Hp → V → Prop)
abbrev DE := List (Option Sd)
/-- own lists that stand at the places ks -/
def KidsOk (f : Fr) (Hs H : Hp) (ks : List Addr) (ds : List (List Dt)) : Prop := ks.length = ds.length ∧ ∀ (i : Nat) (c : Addr) (d : List Dt), ks[i]? = some c → ds[i]? = some d → Hs c = none ∧ f.H0 c = none ∧ ∃ vs, H c = some (.lst vs) ∧ RepL f.C Hs vs d
/-- the own lists behind an own object -/
def kd : Option Sd → List Addr
  | some (.nst _ _ ks _) => ks
  | _ => []
def SlotOk (f : Fr) (Hs H : Hp) : Option Sd → Option V → Prop
  | none, _ => True
  | some (.sh d), v => ∃ u, v = some u ∧ Rep f.C Hs u d
  | some (.ow ds), v => ∃ a vs, v = some (.ref a) ∧ Hs a = none ∧ f.H0 a = none ∧ H a = some (.lst vs) ∧ RepL f.C Hs vs ds
  | some .pl, v => ∃ p, v = some (.ref p) ∧ f.P = some p
  | some (.gh G), v => ∃ u, v = some u ∧ G Hs u
  | some (.xn a d w), v => v = some (.ref a) ∧ ∃ u, Hs d = some (.xd [(("value" : Str), u)]) ∧ Rep f.C Hs u w
  | some (.ob o), v => ∃ a, v = some (.ref a) ∧ Hs a = none ∧ f.H0 a = none ∧ H a = some (o a)
  | some (.om mq ds), v => ∃ a vs, v = some (.ref a) ∧ Hs a = none ∧ f.H0 a = none ∧ H a = some (mq f.C.P f.C.w a vs) ∧ RepL f.C Hs vs ds
  | some (.nst r o ks ds), v => v = some (.ref r) ∧ Hs r = none ∧ f.H0 r = none ∧ H r = some o ∧ r ∉ ks ∧ ks.Nodup ∧ KidsOk f Hs H ks ds
def isOw : Option Sd → Bool
  | some (.nst _ _ _ _) => true
  | some (.om _ _) => true
  | some (.ow _) => true
  | some (.ob _) => true
  | _ => false
/-- no tuple: these may become known at any time -/
def Ntp (o : HO) : Prop := ∀ vs, o ≠ .tup vs
theorem nt_lst {vs : List V} : Ntp (.lst vs) := fun _ z => by cases z
def NTs : Option Sd → Prop
  | some (.ob o) => ∀ a, Ntp (o a)
  | some (.om mq _) => ∀ P w a vs, Ntp (mq P w a vs)
  | some (.nst _ o _ _) => Ntp o
  | some (.gh G) => ∀ Hs Hs' u, Same Hs Hs' → G Hs u → G Hs' u
  | _ => True
structure OkS (f : Fr) (env : DE) (n : Int) (σ : Sl) (Hs H : Hp) : Prop where
  len : env.length = σ.length
  sub : Same Hs H
  mono : Same f.Hs0 Hs
  keep : ∀ a o, some a ≠ f.P → f.H0 a = some o → H a = some o
  frsh : ∀ a o, Ntp o → f.H0 a = some o → f.Hs0 a = none → Hs a = none
  sl : ∀ (i : Nat) (e : Option Sd) (v : Option V), env[i]? = some e → σ[i]? = some v → SlotOk f Hs H e v
  apt : ∀ (i j : Nat) (a : Addr) (e e' : Option Sd), i ≠ j → env[i]? = some e → env[j]? = some e' → isOw e = true → isOw e' = true → σ[i]? = some (some (.ref a)) → σ[j]? ≠ some (some (.ref a)) ∧ a ∉ kd e' ∧ ∀ c ∈ kd e, c ∉ kd e'
  pool : ∀ p, f.P = some p → PoolAt H p n ∧ Hs p = none ∧ f.H0 p ≠ none
  nt : ∀ (i : Nat) (e : Option Sd), env[i]? = some e → NTs e
section
variable {f : Fr} {env env' : DE} {n n' : Int} {σ σ' : Sl} {Hs H : Hp} {p a : Addr} {o : HO} {i : Nat} {v : V} {vs : List V} {d : Dt} {ds ds' : List Dt}
/-- no own slot has it, itself or behind it -/
def Nu (env : DE) (σ : Sl) (a : Addr) : Prop := ∀ (j : Nat) (e : Option Sd), env[j]? = some e → isOw e = true → σ[j]? ≠ some (some (.ref a)) ∧ a ∉ kd e
theorem OkS.dst (k : OkS f env n σ Hs H) (i j : Nat) (a : Addr) (e e' : Option Sd) (ne : i ≠ j) (h1 : env[i]? = some e) (h2 : env[j]? = some e') (o1 : isOw e = true) (o2 : isOw e' = true) (s1 : σ[i]? = some (some (.ref a))) (s2 : σ[j]? = some (some (.ref a))) : False := (k.apt i j a e e' ne h1 h2 o1 o2 s1).1 s2
theorem KidsOk.up {Hs' H' : Hp} {ks : List Addr} {ds : List (List Dt)} (h : KidsOk f Hs H ks ds) (s : Same Hs Hs') (q : ∀ c ∈ ks, ∀ o, Ntp o → Hs c = none → H c = some o → Hs' c = none ∧ H' c = some o) : KidsOk f Hs' H' ks ds := by
  refine ⟨h.1, fun i c d e1 e2 => ?_⟩
  obtain ⟨h1, h2, vs, h3, h4⟩ := h.2 i c d e1 e2
  obtain ⟨q1, q2⟩ := q c (List.mem_of_getElem? e1) _ nt_lst h1 h3
  exact ⟨q1, h2, vs, q2, h4.same s⟩
theorem KidsOk.at {ks : List Addr} {ds : List (List Dt)} (h : KidsOk f Hs H ks ds) {c : Addr} (hc : c ∈ ks) : Hs c = none ∧ f.H0 c = none ∧ H c ≠ none := by
  obtain ⟨i, hi, rfl⟩ := List.getElem_of_mem hc
  obtain ⟨h1, h2, vs, h3, _⟩ := h.2 i _ (ds[i]'(by rw [← h.1]; exact hi)) (List.getElem?_eq_getElem hi) (List.getElem?_eq_getElem _)
  exact ⟨h1, h2, by rw [h3]; exact Option.some_ne_none _⟩
theorem OkS.h0 (k : OkS f env n σ Hs H) (h : H p = none) : f.H0 p = none := by
  cases q : f.H0 p with
  | none => rfl
  | some o =>
    by_cases e : f.P = some p
    · exact absurd h (k.pool p e).1.there
    · have := k.keep p o (fun z => e z.symm) q
      rw [h] at this
      cases this
theorem OkS.hs (k : OkS f env n σ Hs H) (h : H p = none) : Hs p = none := by
  cases q : Hs p with
  | none => rfl
  | some o =>
    have := k.sub _ _ q
    rw [h] at this
    cases this
theorem SlotOk.up {Hs' H' : Hp} {e : Option Sd} {x : Option V} (h : SlotOk f Hs H e x) (nt : NTs e) (s : Same Hs Hs') (q : ∀ a o, Ntp o → Hs a = none → H a = some o → Hs' a = none ∧ H' a = some o) : SlotOk f Hs' H' e x := by
  match e, h, nt with
  | none, _, _ => trivial
  | some (.sh d), h, _ =>
    obtain ⟨u, h1, h2⟩ := h
    exact ⟨u, h1, h2.same s⟩
  | some (.ow ds), h, _ =>
    obtain ⟨a, vs, h1, h2, h3, h4, h5⟩ := h
    obtain ⟨q1, q2⟩ := q a _ nt_lst h2 h4
    exact ⟨a, vs, h1, q1, h3, q2, h5.same s⟩
  | some .pl, h, _ => exact h
  | some (.gh G), h, nt =>
    obtain ⟨u, h1, h2⟩ := h
    exact ⟨u, h1, nt _ _ _ s h2⟩
  | some (.xn a d w), h, _ =>
    obtain ⟨h1, u, h2, h3⟩ := h
    exact ⟨h1, u, s _ _ h2, h3.same s⟩
  | some (.ob o), h, nt =>
    obtain ⟨a, h1, h2, h3, h4⟩ := h
    obtain ⟨q1, q2⟩ := q a _ (nt a) h2 h4
    exact ⟨a, h1, q1, h3, q2⟩
  | some (.om mq ds), h, nt =>
    obtain ⟨a, vs, h1, h2, h3, h4, h5⟩ := h
    obtain ⟨q1, q2⟩ := q a _ (nt _ _ _ vs) h2 h4
    exact ⟨a, vs, h1, q1, h3, q2, h5.same s⟩
  | some (.nst r o ks ds), h, nt =>
    obtain ⟨h1, h2, h3, h4, h5, h6, h7⟩ := h
    obtain ⟨q1, q2⟩ := q r _ nt h2 h4
    exact ⟨h1, q1, h3, q2, h5, h6, h7.up s fun c _ o nt a b => q c o nt a b⟩
/-- a new object, known to all -/
theorem OkS.allocS (k : OkS f env n σ Hs H) (h : H p = none) : OkS f env n σ (upd Hs p o) (upd H p o) := by
  have h0 := k.h0 h
  have hs := k.hs h
  refine ⟨k.len, fun b x e => ?_, fun b x e => ?_, fun b x nb e => ?_, fun b x nt e1 e2 => ?_, fun i e x e1 e2 => (k.sl i e x e1 e2).up (k.nt i e e1) (same_upd hs) fun b us _ nb hb => ?_, k.apt, fun q hq => ?_, k.nt⟩
  · by_cases z : b = p
    · subst z
      rw [upd_same] at e ⊢
      exact e
    · rw [upd_ne z] at e ⊢
      exact k.sub _ _ e
  · exact same_upd hs _ _ (k.mono _ _ e)
  · have z : b ≠ p := ne_of_none e h0
    rw [upd_ne z]
    exact k.keep _ _ nb e
  · have z : b ≠ p := ne_of_none e1 h0
    rw [upd_ne z]
    exact k.frsh _ _ nt e1 e2
  · have z : b ≠ p := ne_of_none hb h
    rw [upd_ne z, upd_ne z]
    exact ⟨nb, hb⟩
  · obtain ⟨q1, q2, q3⟩ := k.pool q hq
    have z : q ≠ p := fun z => q3 (by rw [z]; exact h0)
    exact ⟨q1.same (same_upd h), by rw [upd_ne z]; exact q2, q3⟩
/-- a new object that nobody knows yet -/
theorem OkS.allocU (k : OkS f env n σ Hs H) (h : H p = none) : OkS f env n σ Hs (upd H p o) := by
  have h0 := k.h0 h
  refine ⟨k.len, fun b x e => ?_, k.mono, fun b x nb e => ?_, k.frsh, fun i e x e1 e2 => (k.sl i e x e1 e2).up (k.nt i e e1) (Same.refl _) fun b us _ nb hb => ?_, k.apt, fun q hq => ?_, k.nt⟩
  · exact same_upd h _ _ (k.sub _ _ e)
  · exact same_upd h _ _ (k.keep _ _ nb e)
  · exact ⟨nb, same_upd h _ _ hb⟩
  · obtain ⟨q1, q2, q3⟩ := k.pool q hq
    exact ⟨q1.same (same_upd h), q2, q3⟩
/-- an object that nobody knows becomes known -/
theorem OkS.share (k : OkS f env n σ Hs H) (h : H a = some o) (hs : Hs a = none) (h0 : f.H0 a = none) (nu : Nu env σ a) : OkS f env n σ (upd Hs a o) H := by
  refine ⟨k.len, fun b x e => ?_, fun b x e => ?_, k.keep, fun b x nt e1 e2 => ?_, fun i e x e1 e2 => ?_, k.apt, fun q hq => ?_, k.nt⟩
  · by_cases z : b = a
    · subst z
      rw [upd_same] at e
      obtain rfl := Option.some.inj e
      exact h
    · rw [upd_ne z] at e
      exact k.sub _ _ e
  · exact same_upd hs _ _ (k.mono _ _ e)
  · have z : b ≠ a := ne_of_none e1 h0
    rw [upd_ne z]
    exact k.frsh _ _ nt e1 e2
  · have q := k.sl i e x e1 e2
    match e, q with
    | none, _ => trivial
    | some (.sh d), q =>
      obtain ⟨u, h1, h2⟩ := q
      exact ⟨u, h1, h2.same (same_upd hs)⟩
    | some (.ow ds), q =>
      obtain ⟨b, us, h1, h2, h3, h4, h5⟩ := q
      have z : b ≠ a := fun z => (nu i _ e1 rfl).1 (by rw [e2, h1, z])
      exact ⟨b, us, h1, by rw [upd_ne z]; exact h2, h3, h4, h5.same (same_upd hs)⟩
    | some .pl, q => exact q
    | some (.gh G), q =>
      obtain ⟨u, h1, h2⟩ := q
      exact ⟨u, h1, k.nt i _ e1 _ _ _ (same_upd hs) h2⟩
    | some (.xn a d w), q =>
      obtain ⟨h1, u, h2, h3⟩ := q
      exact ⟨h1, u, same_upd hs _ _ h2, h3.same (same_upd hs)⟩
    | some (.ob o'), q =>
      obtain ⟨b, h1, h2, h3, h4⟩ := q
      have z : b ≠ a := fun z => (nu i _ e1 rfl).1 (by rw [e2, h1, z])
      exact ⟨b, h1, by rw [upd_ne z]; exact h2, h3, h4⟩
    | some (.om mq ds), q =>
      obtain ⟨b, us, h1, h2, h3, h4, h5⟩ := q
      have z : b ≠ a := fun z => (nu i _ e1 rfl).1 (by rw [e2, h1, z])
      exact ⟨b, us, h1, by rw [upd_ne z]; exact h2, h3, h4, h5.same (same_upd hs)⟩
    | some (.nst r o' ks ds), q =>
      obtain ⟨h1, h2, h3, h4, h5, h6, h7⟩ := q
      have z : r ≠ a := fun z => (nu i _ e1 rfl).1 (by rw [e2, h1, z])
      exact ⟨h1, by rw [upd_ne z]; exact h2, h3, h4, h5, h6, h7.up (same_upd hs) fun c hc o2 _ n1 n2 => ⟨by rw [upd_ne (fun z => (nu i _ e1 rfl).2 (by rw [← z]; exact hc))]; exact n1, n2⟩⟩
  · obtain ⟨q1, q2, q3⟩ := k.pool q hq
    have z : q ≠ a := fun z => q3 (by rw [z]; exact h0)
    exact ⟨q1, by rw [upd_ne z]; exact q2, q3⟩
theorem getset {α : Type} {l : List α} {i j : Nat} {x y : α} (h : (l.set i x)[j]? = some y) : (i = j ∧ y = x) ∨ (i ≠ j ∧ l[j]? = some y) := by
  by_cases e : i = j
  · subst e
    by_cases hl : i < l.length
    · rw [List.getElem?_set_self hl] at h
      exact .inl ⟨rfl, (Option.some.inj h).symm⟩
    · rw [List.getElem?_eq_none (by simpa using hl)] at h
      cases h
  · rw [List.getElem?_set_ne e] at h
    exact .inr ⟨e, h⟩
theorem OkS.setS (k : OkS f env n σ Hs H) (r : Rep f.C Hs v d) : OkS f (env.set i (some (.sh d))) n (σ.set i (some v)) Hs H := by
  refine ⟨by rw [List.length_set, List.length_set]; exact k.len, k.sub, k.mono, k.keep, k.frsh, fun j e x e1 e2 => ?_, fun j l a e e' nj e1 e2 o1 o2 e3 => ?_, k.pool, fun j e e1 => by
    rcases getset e1 with ⟨_, rfl⟩ | ⟨_, e1⟩
    · trivial
    · exact k.nt j e e1⟩
  · rcases getset e1 with ⟨rfl, rfl⟩ | ⟨ne, e1⟩
    · rcases getset e2 with ⟨_, rfl⟩ | ⟨ne, e2⟩
      · exact ⟨v, rfl, r⟩
      · exact absurd rfl ne
    · rcases getset e2 with ⟨z, rfl⟩ | ⟨_, e2⟩
      · exact absurd z ne
      · exact k.sl j e x e1 e2
  · rcases getset e1 with ⟨rfl, rfl⟩ | ⟨ne1, e1⟩
    · cases o1
    rcases getset e2 with ⟨rfl, rfl⟩ | ⟨ne2, e2⟩
    · cases o2
    rw [List.getElem?_set_ne ne1] at e3
    rw [List.getElem?_set_ne ne2]
    exact k.apt j l a e e' nj e1 e2 o1 o2 e3
theorem OkS.setO (k : OkS f env n σ Hs H) (h : H a = some (.lst vs)) (hs : Hs a = none) (h0 : f.H0 a = none) (r : RepL f.C Hs vs ds) (nu : Nu env σ a) : OkS f (env.set i (some (.ow ds))) n (σ.set i (some (.ref a))) Hs H := by
  refine ⟨by rw [List.length_set, List.length_set]; exact k.len, k.sub, k.mono, k.keep, k.frsh, fun j e x e1 e2 => ?_, fun j l b e e' nj e1 e2 o1 o2 e3 => ?_, k.pool, fun j e e1 => by
    rcases getset e1 with ⟨_, rfl⟩ | ⟨_, e1⟩
    · trivial
    · exact k.nt j e e1⟩
  · rcases getset e1 with ⟨rfl, rfl⟩ | ⟨ne, e1⟩
    · rcases getset e2 with ⟨_, rfl⟩ | ⟨ne, e2⟩
      · exact ⟨a, vs, rfl, hs, h0, h, r⟩
      · exact absurd rfl ne
    · rcases getset e2 with ⟨z, rfl⟩ | ⟨_, e2⟩
      · exact absurd z ne
      · exact k.sl j e x e1 e2
  · rcases getset e1 with ⟨rfl, rfl⟩ | ⟨ne1, e1⟩
    · rcases getset e2 with ⟨rfl, rfl⟩ | ⟨ne2, e2⟩
      · exact absurd rfl nj
      rcases getset e3 with ⟨_, z⟩ | ⟨z, _⟩
      · obtain rfl : b = a := by simpa using z
        rw [List.getElem?_set_ne ne2]
        exact ⟨(nu l e' e2 o2).1, (nu l e' e2 o2).2, fun c hc => by cases hc⟩
      · exact absurd rfl z
    rw [List.getElem?_set_ne ne1] at e3
    rcases getset e2 with ⟨rfl, rfl⟩ | ⟨ne2, e2⟩
    · refine ⟨fun e4 => ?_, (fun h => by cases h), fun c _ h => by cases h⟩
      rcases getset e4 with ⟨_, z⟩ | ⟨z, _⟩
      · obtain rfl : b = a := by simpa using z
        exact (nu j e e1 o1).1 e3
      · exact z rfl
    rw [List.getElem?_set_ne ne2]
    exact k.apt j l b e e' nj e1 e2 o1 o2 e3
/-- an owned list is written -/
theorem OkS.write (k : OkS f env n σ Hs H) (hi : env[i]? = some (some (.ow ds))) (ha : σ[i]? = some (some (.ref a))) (r : RepL f.C Hs vs ds') : OkS f (env.set i (some (.ow ds'))) n σ Hs (upd H a (.lst vs)) := by
  obtain ⟨a', us, z1, z2, z3, z4, z5⟩ := k.sl i _ _ hi ha
  obtain rfl : a' = a := by simpa using z1.symm
  refine ⟨by rw [List.length_set]; exact k.len, fun b x e => ?_, k.mono, fun b x nb e => ?_, k.frsh, fun j e x e1 e2 => ?_, fun j l b e e' nj e1 e2 o1 o2 e3 => ?_, fun q hq => ?_, fun j e e1 => by
    rcases getset e1 with ⟨_, rfl⟩ | ⟨_, e1⟩
    · trivial
    · exact k.nt j e e1⟩
  · rw [upd_ne (ne_of_none e z2)]
    exact k.sub _ _ e
  · rw [upd_ne (ne_of_none e z3)]
    exact k.keep _ _ nb e
  · rcases getset e1 with ⟨rfl, rfl⟩ | ⟨ne, e1⟩
    · rw [ha] at e2
      obtain rfl := Option.some.inj e2
      exact ⟨a', vs, rfl, z2, z3, upd_same, r⟩
    · have q := k.sl j e x e1 e2
      match e, q, e1 with
      | none, _, _ => trivial
      | some (.sh d), q, _ => exact q
      | some (.ow ds), q, e1 =>
        obtain ⟨b, us, h1, h2, h3, h4, h5⟩ := q
        have z : b ≠ a' := fun z => k.dst i j a' _ _ ne hi e1 rfl rfl ha (by rw [e2, h1, z])
        exact ⟨b, us, h1, h2, h3, by rw [upd_ne z]; exact h4, h5⟩
      | some .pl, q, _ => exact q
      | some (.gh _), q, _ => exact q
      | some (.xn _ _ _), q, _ => exact q
      | some (.ob o'), q, e1 =>
        obtain ⟨b, h1, h2, h3, h4⟩ := q
        have z : b ≠ a' := fun z => k.dst i j a' _ _ ne hi e1 rfl rfl ha (by rw [e2, h1, z])
        exact ⟨b, h1, h2, h3, by rw [upd_ne z]; exact h4⟩
      | some (.om mq ds2), q, e1 =>
        obtain ⟨b, us, h1, h2, h3, h4, h5⟩ := q
        have z : b ≠ a' := fun z => k.dst i j a' _ _ ne hi e1 rfl rfl ha (by rw [e2, h1, z])
        exact ⟨b, us, h1, h2, h3, by rw [upd_ne z]; exact h4, h5⟩
      | some (.nst r o' ks ds2), q, e1 =>
        obtain ⟨h1, h2, h3, h4, h5, h6, h7⟩ := q
        have ap := k.apt i j a' _ _ ne hi e1 rfl rfl ha
        have z : r ≠ a' := fun z => ap.1 (by rw [e2, h1, z])
        exact ⟨h1, h2, h3, by rw [upd_ne z]; exact h4, h5, h6, h7.up (Same.refl _) fun c hc o2 _ n1 n2 => ⟨n1, by rw [upd_ne (fun z => ap.2.1 (by rw [← z]; exact hc))]; exact n2⟩⟩
  · have w : ∀ (m : Nat) (e : Option Sd), (env.set i (some (.ow ds')))[m]? = some e → isOw e = true → ∃ e0, env[m]? = some e0 ∧ isOw e0 = true ∧ kd e0 = kd e := fun m e h1 h2 => by
      rcases getset h1 with ⟨rfl, rfl⟩ | ⟨_, h1⟩
      · exact ⟨_, hi, rfl, rfl⟩
      · exact ⟨e, h1, h2, rfl⟩
    obtain ⟨x1, y1, y2, y5⟩ := w j e e1 o1
    obtain ⟨x2, y3, y4, y6⟩ := w l e' e2 o2
    rw [← y5, ← y6]
    exact k.apt j l b x1 x2 nj y1 y3 y2 y4 e3
  · obtain ⟨q1, q2, q3⟩ := k.pool q hq
    have z : q ≠ a' := fun z => q3 (by rw [z]; exact z3)
    obtain ⟨x, y, w, h1, h2⟩ := q1
    exact ⟨⟨x, y, w, by rw [upd_ne z]; exact h1, h2⟩, q2, q3⟩
/-- less is known -/
theorem OkS.weak (k : OkS f env n σ Hs H) (hl : env'.length = σ'.length) (h : ∀ (i : Nat) (e : Option Sd), env'[i]? = some e → e = none ∨ (env[i]? = some e ∧ σ'[i]? = σ[i]?)) : OkS f env' n σ' Hs H := by
  refine ⟨hl, k.sub, k.mono, k.keep, k.frsh, fun j e x e1 e2 => ?_, fun j l b e e' nj e1 e2 o1 o2 e3 => ?_, k.pool, fun j e e1 => ?_⟩
  · rcases h j e e1 with rfl | ⟨h1, h2⟩
    · trivial
    · exact k.sl j e x h1 (by rw [← h2]; exact e2)
  · rcases h j e e1 with rfl | ⟨h1, h2⟩
    · cases o1
    rcases h l e' e2 with rfl | ⟨h3, h4⟩
    · cases o2
    rw [h4]
    exact k.apt j l b e e' nj h1 h3 o1 o2 (by rw [← h2]; exact e3)
  · rcases h j e e1 with rfl | ⟨h1, _⟩
    · trivial
    · exact k.nt j e h1
/-- slot by slot: kept or forgotten -/
inductive Wk : DE → DE → Prop
  | nil : Wk [] []
  | keep {e : Option Sd} {l m : DE} : Wk l m → Wk (e :: l) (e :: m)
  | drop {e : Option Sd} {l m : DE} : Wk l m → Wk (e :: l) (none :: m)
theorem Wk.get : ∀ {l m : DE}, Wk l m → m.length = l.length ∧ ∀ (i : Nat) (e : Option Sd), m[i]? = some e → e = none ∨ l[i]? = some e
  | _, _, .nil => ⟨rfl, fun i e h => by simp at h⟩
  | _, _, .keep r => by
    obtain ⟨h1, h2⟩ := Wk.get r
    refine ⟨by simp [h1], fun i e h => ?_⟩
    cases i with
    | zero => exact .inr (by simpa using h)
    | succ i => simpa using h2 i e (by simpa using h)
  | _, _, .drop r => by
    obtain ⟨h1, h2⟩ := Wk.get r
    refine ⟨by simp [h1], fun i e h => ?_⟩
    cases i with
    | zero => exact .inl (by simpa using h.symm)
    | succ i => simpa using h2 i e (by simpa using h)
theorem OkS.wk (k : OkS f env n σ Hs H) (w : Wk env env') : OkS f env' n σ Hs H := by
  obtain ⟨h1, h2⟩ := w.get
  exact k.weak (h1.trans k.len) fun i e h => (h2 i e h).imp id fun z => ⟨z, rfl⟩
/-- a comprehension's own names -/
def wipeE (env : DE) : List Nat → DE
  | [] => env
  | v :: vs => (wipeE env vs).set v none
theorem wipeE_get : ∀ (vs : List Nat) (i : Nat) (e : Option Sd), (wipeE env vs)[i]? = some e → e = none ∨ (env[i]? = some e ∧ (wipe σ vs)[i]? = σ[i]?)
  | [], i, e, h => .inr ⟨h, rfl⟩
  | v :: vs, i, e, h => by
    unfold wipeE at h
    unfold wipe
    rcases getset h with ⟨rfl, rfl⟩ | ⟨ne, h⟩
    · exact .inl rfl
    · rw [List.getElem?_set_ne ne]
      exact wipeE_get vs i e h
theorem wipeE_len : ∀ vs : List Nat, (wipeE env vs).length = env.length
  | [] => rfl
  | v :: vs => by
    unfold wipeE
    rw [List.length_set, wipeE_len vs]
theorem OkS.wipe (k : OkS f env n σ Hs H) (vs : List Nat) : OkS f (wipeE env vs) n (L2.wipe σ vs) Hs H :=
  k.weak (by rw [wipeE_len, wipe_length]; exact k.len) fun i e h => wipeE_get vs i e h
theorem OkS.pool_n (k : OkS f env n σ Hs H) (h : n ≤ n') : OkS f env n' σ Hs H :=
  ⟨k.len, k.sub, k.mono, k.keep, k.frsh, k.sl, k.apt, fun p hp => ⟨(k.pool p hp).1.le h, (k.pool p hp).2⟩, k.nt⟩
/-- a tuple becomes known -/
theorem OkS.shareT (k : OkS f env n σ Hs H) (h : H a = some (.tup vs)) (hs : Hs a = none) : OkS f env n σ (upd Hs a (.tup vs)) H := by
  refine ⟨k.len, fun b x e => ?_, fun b x e => same_upd hs _ _ (k.mono _ _ e), k.keep, fun b x nt e1 e2 => ?_, fun i e x e1 e2 => (k.sl i e x e1 e2).up (k.nt i e e1) (same_upd hs) fun b us nt nb hb => ⟨?_, hb⟩, k.apt, fun q hq => ?_, k.nt⟩
  · by_cases z : b = a
    · subst z
      rw [upd_same] at e
      obtain rfl := Option.some.inj e
      exact h
    · rw [upd_ne z] at e
      exact k.sub _ _ e
  · have z : b ≠ a := fun z => by
      subst z
      by_cases hP : some b = f.P
      · obtain ⟨⟨_, _, _, q1, _⟩, _⟩ := k.pool b hP.symm
        rw [h] at q1
        cases q1
      · have := k.keep b x hP e1
        rw [h] at this
        exact nt _ (Option.some.inj this).symm
    rw [upd_ne z]
    exact k.frsh _ _ nt e1 e2
  · have z : b ≠ a := fun z => by
      subst z
      rw [h] at hb
      exact nt _ (Option.some.inj hb).symm
    rw [upd_ne z]
    exact nb
  · obtain ⟨q1, q2, q3⟩ := k.pool q hq
    have z : q ≠ a := fun z => by
      subst z
      obtain ⟨_, _, _, w, _⟩ := q1
      rw [h] at w
      cases w
    exact ⟨q1, by rw [upd_ne z]; exact q2, q3⟩
end
end WH
namespace WH
open PySem PySem.Spec PyProof.Rows L2
open Enc (enc)
open EncL (encl)
/-! ### what an expression comes to, by data -/
/-- what an expression may do: new things, and numbers drawn -/
structure Ext (f : Fr) (Hs H Hs' H' : Hp) : Prop where
  s : Same Hs Hs'
  k : ∀ a o, some a ≠ f.P → H a = some o → H' a = some o
  t : ∀ a, H' a = none → H a = none
  u : ∀ a o, (Ntp o ∨ some a = f.P) → H a = some o → Hs a = none → Hs' a = none
theorem Ext.refl {f : Fr} {Hs H : Hp} : Ext f Hs H Hs H := ⟨Same.refl _, fun _ _ _ e => e, fun _ e => e, fun _ _ _ _ e => e⟩
theorem Ext.trans {f : Fr} {Hs H Hs1 H1 Hs2 H2 : Hp} (a : Ext f Hs H Hs1 H1) (b : Ext f Hs1 H1 Hs2 H2) : Ext f Hs H Hs2 H2 :=
  ⟨a.s.trans b.s, fun c o n e => b.k c o n (a.k c o n e), fun c e => a.t c (b.t c e), fun c o nt e n => by
    have n1 := a.u c o nt e n
    cases e1 : H1 c with
    | none =>
      rw [a.t c e1] at e
      cases e
    | some o1 =>
      refine b.u c o1 ?_ e1 n1
      by_cases hP : some c = f.P
      · exact .inr hP
      · rcases nt with nt | nt
        · have := a.k c o hP e
          rw [e1] at this
          obtain rfl := Option.some.inj this
          exact .inl nt
        · exact absurd nt hP⟩
structure NewAt (f : Fr) (env : DE) (σ : Sl) (H0 Hs H : Hp) (a : Addr) (vs : List V) : Prop where
  h : H a = some (.lst vs)
  hs : Hs a = none
  h0 : f.H0 a = none
  nu : Nu env σ a
  n : H0 a = none
theorem NewAt.back {f : Fr} {env : DE} {σ : Sl} {Hs0 H0 Hs1 H1 Hs H : Hp} {a : Addr} {vs : List V} (x : NewAt f env σ H1 Hs H a vs) (e : Ext f Hs0 H0 Hs1 H1) : NewAt f env σ H0 Hs H a vs := ⟨x.h, x.hs, x.h0, x.nu, e.t a x.n⟩
section
variable (f : Fr)
def EvM {α : Type} [Enc α] (te : TE) (env : DE) (m : M α) : Prop := ∀ n σ Hs H, OkS f env n σ Hs H → ∀ Qd, m n Qd → ∀ Q : VK,
  (∀ a n' v Hs' H', Qd a n' → OkS f env n' σ Hs' H' → Ext f Hs H Hs' H' → Rep f.C Hs' v (enc a) → Q v H') → te σ H Q
/-- a new list -/
def EnM {α : Type} [Enc α] (te : TE) (env : DE) (m : M (List α)) : Prop := ∀ n σ Hs H, OkS f env n σ Hs H → ∀ Qd, m n Qd → ∀ Q : VK,
  (∀ xs n' a vs Hs' H', Qd xs n' → OkS f env n' σ Hs' H' → Ext f Hs H Hs' H' → NewAt f env σ H Hs' H' a vs → RepL f.C Hs' vs (xs.map enc) → Q (.ref a) H') → te σ H Q
def EtM (tt : TT) (env : DE) (m : M Bool) : Prop := ∀ n σ Hs H, OkS f env n σ Hs H → ∀ Qd, m n Qd → ∀ Q : Bool → Hp → Prop,
  (∀ b n' Hs' H', Qd b n' → OkS f env n' σ Hs' H' → Ext f Hs H Hs' H' → Q b H') → tt σ H Q
/-- arguments of any kinds -/
def EaM {τ : Type} [EncL τ] (ta : TA) (env : DE) (m : M τ) : Prop := ∀ n σ Hs H, OkS f env n σ Hs H → ∀ Qd, m n Qd → ∀ Q : List V → Hp → Prop,
  (∀ x n' vs Hs' H', Qd x n' → OkS f env n' σ Hs' H' → Ext f Hs H Hs' H' → RepL f.C Hs' vs (encl x) → Q vs H') → ta σ H Q
/-- items of one kind, k of them -/
def EiM {α : Type} [Enc α] (k : Nat) (ta : TA) (env : DE) (m : M (List α)) : Prop := ∀ n σ Hs H, OkS f env n σ Hs H → ∀ Qd, m n Qd → ∀ Q : List V → Hp → Prop,
  (∀ xs n' vs Hs' H', Qd xs n' → OkS f env n' σ Hs' H' → Ext f Hs H Hs' H' → RepL f.C Hs' vs (xs.map enc) → xs.length = k → Q vs H') → ta σ H Q
/-- a bound of a slice -/
def EoM (to : TO) (env : DE) (m : M (Option Int)) : Prop := ∀ n σ Hs H, OkS f env n σ Hs H → ∀ Qd, m n Qd → ∀ Q : Option Int → Hp → Prop,
  (∀ o n' Hs' H', Qd o n' → OkS f env n' σ Hs' H' → Ext f Hs H Hs' H' → Q o H') → to σ H Q
end
section
variable {f : Fr} {env : DE} {α β γ δ : Type} [Enc α] [Enc β] [Enc γ] [Enc δ] {ta tb tc td te : TE} {tt uu : TT}
theorem rep_int {C : CK} {H : Hp} {v : V} {i : Int} (h : Rep C H v (enc i)) : v = .int i := by
  cases h
  rfl
theorem rep_str {C : CK} {H : Hp} {v : V} {x : Str} (h : Rep C H v (enc x)) : v = .str x := by
  cases h
  rfl
theorem rep_bl {C : CK} {H : Hp} {v : V} {b : Bool} (h : Rep C H v (enc b)) : v = .bl b := by
  cases h
  rfl
theorem rep_lst {C : CK} {H : Hp} {v : V} {xs : List α} (h : Rep C H v (enc xs)) : ∃ a vs, v = .ref a ∧ H a = some (.lst vs) ∧ RepL C H vs (xs.map enc) := by
  cases h with
  | lst h1 h2 => exact ⟨_, _, rfl, h1, h2⟩
theorem rep_stk {C : CK} {H : Hp} {v : V} {s : Stk} (h : Rep C H v (enc s)) : ∃ a, v = .ref a ∧ StkAt C H a s.ws := by
  cases h with
  | stk h1 => exact ⟨_, rfl, h1⟩
theorem rep_non {C : CK} {H : Hp} {v : V} {s : Unit} (h : Rep C H v (enc s)) : v = .non := by
  cases h
  rfl
theorem rep_tup {C : CK} {H : Hp} {v : V} {ds : List Dt} (h : Rep C H v (.tup ds)) : ∃ a vs, v = .ref a ∧ TupAt C H a vs ∧ RepL C H vs ds := by
  cases h with
  | tup h1 h2 => exact ⟨_, _, rfl, h1, h2⟩
theorem ev_var {i : Nat} {a : α} (h : env[i]? = some (some (.sh (enc a)))) : EvM f (tVar i) env (ret a) := fun n σ Hs H k Qd q Q w => by
  have hi : i < σ.length := by
    have := (List.getElem?_eq_some_iff.mp h).1
    rw [k.len] at this
    exact this
  obtain ⟨u, h1, h2⟩ := k.sl i _ _ h (List.getElem?_eq_getElem hi)
  exact ⟨u, by rw [List.getElem?_eq_getElem hi, h1], w a n u Hs H q k .refl h2⟩
theorem ev_int {i : Int} : EvM f (tC (.int i)) env (ret i) := fun n σ Hs H k Qd q Q w => w i n _ Hs H q k .refl (.int i)
theorem ev_str {x : Str} : EvM f (tC (.str x)) env (ret x) := fun n σ Hs H k Qd q Q w => w x n _ Hs H q k .refl (.str x)
theorem ev_bl {b : Bool} : EvM f (tC (.bl b)) env (ret b) := fun n σ Hs H k Qd q Q w => w b n _ Hs H q k .refl (.bl b)
theorem ev_non : EvM f (tC .non) env (ret ()) := fun n σ Hs H k Qd q Q w => w () n _ Hs H q k .refl .non
/-- the same thing, told otherwise -/
theorem ev_as {m : M α} (g : α → β) (hg : ∀ a, enc (g a) = enc a) (h : EvM f te env m) : EvM f te env (bnd m fun a => ret (g a)) := fun n σ Hs H k Qd q Q w =>
  h n σ Hs H k _ q Q fun a n' v Hs' H' qa k' s r => w (g a) n' v Hs' H' qa k' s (by rw [hg]; exact r)
theorem ev_bin {r : R2} {ma : M α} {mb : M β} {mr : α → β → M γ} (hr : ∀ x y a b n σ Hs H, OkS f env n σ Hs H → Rep f.C Hs x (enc a) → Rep f.C Hs y (enc b) → ∀ Qd, mr a b n Qd → ∀ Q : VK,
      (∀ c n' v Hs' H', Qd c n' → OkS f env n' σ Hs' H' → Ext f Hs H Hs' H' → Rep f.C Hs' v (enc c) → Q v H') → r x y H Q) (ha : EvM f ta env ma) (hb : EvM f tb env mb) :
    EvM f (tOp r ta tb) env (bnd ma fun a => bnd mb fun b => mr a b) := fun n σ Hs H k Qd q Q w =>
  ha n σ Hs H k _ q _ fun a n1 x Hs1 H1 q1 k1 s1 r1 => hb n1 σ Hs1 H1 k1 _ q1 _ fun b n2 y Hs2 H2 q2 k2 s2 r2 =>
    hr x y a b n2 σ Hs2 H2 k2 (r1.same s2.s) r2 _ q2 Q fun c n3 v Hs3 H3 q3 k3 s3 r3 => w c n3 v Hs3 H3 q3 k3 ((s1.trans s2).trans s3) r3
theorem OkS.own_ne {n : Int} {σ : Sl} {Hs H : Hp} {p : Addr} (k : OkS f env n σ Hs H) (h : H p = none) : Nu env σ p := fun j e h1 h2 => by
  have hl : j < σ.length := by
    have := (List.getElem?_eq_some_iff.mp h1).1
    rw [k.len] at this
    exact this
  have hσ : σ[j]? = some σ[j] := List.getElem?_eq_getElem hl
  have q := k.sl j e _ h1 hσ
  match e, h2, q with
  | some (.ow ds), _, q =>
    obtain ⟨a, vs, e1, _, _, e2, _⟩ := q
    refine ⟨fun z => ?_, fun z => by cases z⟩
    rw [hσ, e1] at z
    obtain rfl : a = p := by simpa using z
    rw [h] at e2
    cases e2
  | some (.ob o), _, q =>
    obtain ⟨a, e1, _, _, e2⟩ := q
    refine ⟨fun z => ?_, fun z => by cases z⟩
    rw [hσ, e1] at z
    obtain rfl : a = p := by simpa using z
    rw [h] at e2
    cases e2
  | some (.om mq ds), _, q =>
    obtain ⟨a, vs, e1, _, _, e2, _⟩ := q
    refine ⟨fun z => ?_, fun z => by cases z⟩
    rw [hσ, e1] at z
    obtain rfl : a = p := by simpa using z
    rw [h] at e2
    cases e2
  | some (.nst r o ks ds), _, q =>
    obtain ⟨e1, _, _, e2, _, _, e3⟩ := q
    refine ⟨fun z => ?_, fun z => absurd h (e3.at z).2.2⟩
    rw [hσ, e1] at z
    obtain rfl : r = p := by simpa using z
    rw [h] at e2
    cases e2
theorem Nu.set {σ : Sl} {p : Addr} (h : Nu env σ p) {i : Nat} {e0 : Option Sd} {v : Option V} (hv : isOw e0 = true → v ≠ some (.ref p)) (hk : p ∉ kd e0) : Nu (env.set i e0) (σ.set i v) p := fun j e h1 h2 => by
  rcases getset h1 with ⟨rfl, rfl⟩ | ⟨ne, h1⟩
  · refine ⟨fun h3 => ?_, hk⟩
    rcases getset h3 with ⟨_, z⟩ | ⟨z, _⟩
    · exact hv h2 z.symm
    · exact z rfl
  · rw [List.getElem?_set_ne ne]
    exact h j e h1 h2
theorem OkS.newU {n : Int} {σ : Sl} {Hs H : Hp} {p : Addr} {vs : List V} (k : OkS f env n σ Hs H) (h : H p = none) : OkS f env n σ Hs (upd H p (.lst vs)) ∧ NewAt f env σ H Hs (upd H p (.lst vs)) p vs ∧ Ext f Hs H Hs (upd H p (.lst vs)) :=
  ⟨k.allocU h, ⟨upd_same, k.hs h, k.h0 h, k.own_ne h, h⟩, Same.refl _, fun a o _ e => same_upd h _ _ e, fun a e => by
    by_cases z : a = p
    · rw [z]; exact h
    · rw [upd_ne z] at e; exact e, fun _ _ _ _ e => e⟩
theorem OkS.extS {n : Int} {σ : Sl} {Hs H : Hp} {p : Addr} {o : HO} (k : OkS f env n σ Hs H) (h : H p = none) : Ext f Hs H (upd Hs p o) (upd H p o) :=
  ⟨same_upd (k.hs h), fun a x _ e => same_upd h _ _ e, fun a e => by
    by_cases z : a = p
    · rw [z]; exact h
    · rw [upd_ne z] at e; exact e, fun a x _ e n => by rw [upd_ne (ne_of_none e h)]; exact n⟩
/-- a new list, given away -/
theorem ev_new {m : M (List α)} (h : EnM f te env m) : EvM f te env m := fun n σ Hs H k Qd q Q w =>
  h n σ Hs H k _ q Q fun xs n' a vs Hs' H' qa k' s nw r =>
    have s2 := same_upd (o := .lst vs) nw.hs
    w xs n' _ (upd Hs' a (.lst vs)) H' qa (k'.share nw.h nw.hs nw.h0 nw.nu) ⟨s.s.trans s2, s.k, s.t, fun b o nt e z => by
      rw [upd_ne (ne_of_none e nw.n)]
      exact s.u b o nt e z⟩ (.lst upd_same (r.same s2))
theorem en_bin {r : R2} {ma : M α} {mb : M β} {mr : α → β → M (List γ)} (hr : ∀ x y a b n σ Hs H, OkS f env n σ Hs H → Rep f.C Hs x (enc a) → Rep f.C Hs y (enc b) → ∀ Qd, mr a b n Qd → ∀ Q : VK,
      (∀ c n' p vs Hs' H', Qd c n' → OkS f env n' σ Hs' H' → Ext f Hs H Hs' H' → NewAt f env σ H Hs' H' p vs → RepL f.C Hs' vs (c.map enc) → Q (.ref p) H') → r x y H Q) (ha : EvM f ta env ma) (hb : EvM f tb env mb) :
    EnM f (tOp r ta tb) env (bnd ma fun a => bnd mb fun b => mr a b) := fun n σ Hs H k Qd q Q w =>
  ha n σ Hs H k _ q _ fun a n1 x Hs1 H1 q1 k1 s1 r1 => hb n1 σ Hs1 H1 k1 _ q1 _ fun b n2 y Hs2 H2 q2 k2 s2 r2 =>
    hr x y a b n2 σ Hs2 H2 k2 (r1.same s2.s) r2 _ q2 Q fun c n3 p vs Hs3 H3 q3 k3 s3 nw r3 => w c n3 p vs Hs3 H3 q3 k3 ((s1.trans s2).trans s3) (nw.back (s1.trans s2)) r3
theorem ev_I {C : Int → Int → Prop} {g : Int → Int → V} {r : Int → Int → γ} (hg : ∀ i j (H : Hp), Rep f.C H (g i j) (enc (r i j))) {ma mb : M Int} (ha : EvM f ta env ma) (hb : EvM f tb env mb) :
    EvM f (tOp (rI C g) ta tb) env (bnd ma fun a => bnd mb fun b => need (C a b) (ret (r a b))) :=
  ev_bin (mr := fun a b => need (C a b) (ret (r a b))) (fun x y a b n σ Hs H k rx ry Qd q Q w => by
    rw [rep_int rx, rep_int ry]
    exact ⟨a, b, rfl, rfl, q.1, w _ n _ Hs H q.2 k .refl (hg a b Hs)⟩) ha hb
theorem ev_I0 {g : Int → Int → V} {r : Int → Int → γ} (hg : ∀ i j (H : Hp), Rep f.C H (g i j) (enc (r i j))) {ma mb : M Int} (ha : EvM f ta env ma) (hb : EvM f tb env mb) :
    EvM f (tOp (rI0 g) ta tb) env (bnd ma fun a => bnd mb fun b => ret (r a b)) :=
  ev_bin (mr := fun a b => ret (r a b)) (fun x y a b n σ Hs H k rx ry Qd q Q w => by
    rw [rep_int rx, rep_int ry]
    exact ⟨a, b, rfl, rfl, w _ n _ Hs H q k .refl (hg a b Hs)⟩) ha hb
variable {ma mb : M Int}
theorem ev_add (ha : EvM f ta env ma) (hb : EvM f tb env mb) : EvM f (tOp (rI0 fun i j => .int (i + j)) ta tb) env (bnd ma fun a => bnd mb fun b => ret (a + b)) := ev_I0 (r := fun a b => a + b) (fun i j H => .int _) ha hb
theorem ev_sub (ha : EvM f ta env ma) (hb : EvM f tb env mb) : EvM f (tOp (rI0 fun i j => .int (i - j)) ta tb) env (bnd ma fun a => bnd mb fun b => ret (a - b)) := ev_I0 (r := fun a b => a - b) (fun i j H => .int _) ha hb
theorem ev_mul (ha : EvM f ta env ma) (hb : EvM f tb env mb) : EvM f (tOp (rI CMul fun i j => .int (i * j)) ta tb) env (bnd ma fun a => bnd mb fun b => need (CMul a b) (ret (a * b))) := ev_I (r := fun a b => a * b) (fun i j H => .int _) ha hb
theorem ev_fdiv (ha : EvM f ta env ma) (hb : EvM f tb env mb) : EvM f (tOp (rI CDivN fun i j => .int (i.fdiv j)) ta tb) env (bnd ma fun a => bnd mb fun b => need (CDivN a b) (ret (a.fdiv b))) := ev_I (r := fun a b => a.fdiv b) (fun i j H => .int _) ha hb
theorem ev_fmod (ha : EvM f ta env ma) (hb : EvM f tb env mb) : EvM f (tOp (rI (fun _ j => j ≠ 0) fun i j => .int (i.fmod j)) ta tb) env (bnd ma fun a => bnd mb fun b => need (b ≠ 0) (ret (a.fmod b))) := ev_I (r := fun a b => a.fmod b) (fun i j H => .int _) ha hb
theorem ev_pow (ha : EvM f ta env ma) (hb : EvM f tb env mb) : EvM f (tOp (rI CPow fun i j => .int (i ^ j.toNat)) ta tb) env (bnd ma fun a => bnd mb fun b => need (CPow a b) (ret (a ^ b.toNat))) := ev_I (r := fun a b => a ^ b.toNat) (fun i j H => .int _) ha hb
theorem ev_lt (ha : EvM f ta env ma) (hb : EvM f tb env mb) : EvM f (tOp (rI0 fun i j => .bl (decide (i < j))) ta tb) env (bnd ma fun a => bnd mb fun b => ret (decide (a < b))) := ev_I0 (r := fun a b => decide (a < b)) (fun i j H => .bl _) ha hb
theorem ev_le (ha : EvM f ta env ma) (hb : EvM f tb env mb) : EvM f (tOp (rI0 fun i j => .bl (decide (i ≤ j))) ta tb) env (bnd ma fun a => bnd mb fun b => ret (decide (a ≤ b))) := ev_I0 (r := fun a b => decide (a ≤ b)) (fun i j H => .bl _) ha hb
theorem ev_gt (ha : EvM f ta env ma) (hb : EvM f tb env mb) : EvM f (tOp (rI0 fun i j => .bl (decide (j < i))) ta tb) env (bnd ma fun a => bnd mb fun b => ret (decide (b < a))) := ev_I0 (r := fun a b => decide (b < a)) (fun i j H => .bl _) ha hb
theorem ev_ge (ha : EvM f ta env ma) (hb : EvM f tb env mb) : EvM f (tOp (rI0 fun i j => .bl (decide (j ≤ i))) ta tb) env (bnd ma fun a => bnd mb fun b => ret (decide (b ≤ a))) := ev_I0 (r := fun a b => decide (b ≤ a)) (fun i j H => .bl _) ha hb
/-! texts, truth values, comparisons -/
abbrev LIM : Nat := 1000000
theorem lim_size {n : Nat} (h : n ≤ LIM) : n ≤ sizeLine := by
  rw [sizeLine_eq]
  unfold LIM at h
  omega
theorem lim_lt {n : Nat} (h : n ≤ LIM) : n < sizeLine := by
  rw [sizeLine_eq]
  unfold LIM at h
  omega
theorem ev_eqI (ha : EvM f ta env ma) (hb : EvM f tb env mb) : EvM f (tOp rEq ta tb) env (bnd ma fun a => bnd mb fun b => ret (decide (a = b))) :=
  ev_bin (mr := fun a b => ret (decide (a = b))) (fun x y a b n σ Hs H k rx ry Qd q Q w => by
    rw [rep_int rx, rep_int ry]
    refine ⟨rfl, w _ n _ Hs H q k .refl ?_⟩
    have : decide (V.int a = V.int b) = decide (a = b) := by simp
    rw [this]
    exact .bl _) ha hb
theorem ev_neI (ha : EvM f ta env ma) (hb : EvM f tb env mb) : EvM f (tOp rNe ta tb) env (bnd ma fun a => bnd mb fun b => ret (!decide (a = b))) :=
  ev_bin (mr := fun a b => ret (!decide (a = b))) (fun x y a b n σ Hs H k rx ry Qd q Q w => by
    rw [rep_int rx, rep_int ry]
    refine ⟨rfl, w _ n _ Hs H q k .refl ?_⟩
    have : decide (V.int a = V.int b) = decide (a = b) := by simp
    rw [this]
    exact .bl _) ha hb
theorem ev_eqS {ma mb : M Str} (ha : EvM f ta env ma) (hb : EvM f tb env mb) : EvM f (tOp rEq ta tb) env (bnd ma fun a => bnd mb fun b => ret (decide (a = b))) :=
  ev_bin (mr := fun a b => ret (decide (a = b))) (fun x y a b n σ Hs H k rx ry Qd q Q w => by
    rw [rep_str rx, rep_str ry]
    refine ⟨rfl, w _ n _ Hs H q k .refl ?_⟩
    have : decide (V.str a = V.str b) = decide (a = b) := by simp
    rw [this]
    exact .bl _) ha hb
theorem ev_neS {ma mb : M Str} (ha : EvM f ta env ma) (hb : EvM f tb env mb) : EvM f (tOp rNe ta tb) env (bnd ma fun a => bnd mb fun b => ret (!decide (a = b))) :=
  ev_bin (mr := fun a b => ret (!decide (a = b))) (fun x y a b n σ Hs H k rx ry Qd q Q w => by
    rw [rep_str rx, rep_str ry]
    refine ⟨rfl, w _ n _ Hs H q k .refl ?_⟩
    have : decide (V.str a = V.str b) = decide (a = b) := by simp
    rw [this]
    exact .bl _) ha hb
theorem ev_eqB {ma mb : M Bool} (ha : EvM f ta env ma) (hb : EvM f tb env mb) : EvM f (tOp rEq ta tb) env (bnd ma fun a => bnd mb fun b => ret (decide (a = b))) :=
  ev_bin (mr := fun a b => ret (decide (a = b))) (fun x y a b n σ Hs H k rx ry Qd q Q w => by
    rw [rep_bl rx, rep_bl ry]
    refine ⟨rfl, w _ n _ Hs H q k .refl ?_⟩
    have : decide (V.bl a = V.bl b) = decide (a = b) := by simp
    rw [this]
    exact .bl _) ha hb
theorem ev_neB {ma mb : M Bool} (ha : EvM f ta env ma) (hb : EvM f tb env mb) : EvM f (tOp rNe ta tb) env (bnd ma fun a => bnd mb fun b => ret (!decide (a = b))) :=
  ev_bin (mr := fun a b => ret (!decide (a = b))) (fun x y a b n σ Hs H k rx ry Qd q Q w => by
    rw [rep_bl rx, rep_bl ry]
    refine ⟨rfl, w _ n _ Hs H q k .refl ?_⟩
    have : decide (V.bl a = V.bl b) = decide (a = b) := by simp
    rw [this]
    exact .bl _) ha hb
theorem ev_catS {ma mb : M Str} (ha : EvM f ta env ma) (hb : EvM f tb env mb) : EvM f (tOp (fun x y H Q => ∃ i j, x = .str i ∧ y = .str j ∧ i.length + j.length ≤ sizeLine ∧ Q (.str (i ++ j)) H) ta tb) env (bnd ma fun a => bnd mb fun b => need (a.length + b.length ≤ LIM) (ret (a ++ b))) :=
  ev_bin (mr := fun a b => need (a.length + b.length ≤ LIM) (ret (a ++ b))) (fun x y a b n σ Hs H k rx ry Qd q Q w => by
    rw [rep_str rx, rep_str ry]
    exact ⟨a, b, rfl, rfl, lim_size q.1, w _ n _ Hs H q.2 k .refl (.str _)⟩) ha hb
theorem ev_ltS {ma mb : M Str} (ha : EvM f ta env ma) (hb : EvM f tb env mb) : EvM f (tOp (fun x y H Q => ∃ i j, x = .str i ∧ y = .str j ∧ Q (.bl (decide (i.cps.toList < j.cps.toList))) H) ta tb) env (bnd ma fun a => bnd mb fun b => ret (decide (a.cps.toList < b.cps.toList))) :=
  ev_bin (mr := fun a b => ret (decide (a.cps.toList < b.cps.toList))) (fun x y a b n σ Hs H k rx ry Qd q Q w => by
    rw [rep_str rx, rep_str ry]
    exact ⟨a, b, rfl, rfl, w _ n _ Hs H q k .refl (.bl _)⟩) ha hb
/-- one sign in a text -/
theorem ev_inC {ma mb : M Str} (ha : EvM f ta env ma) (hb : EvM f tb env mb) : EvM f (tOp (fun x y H Q => ∃ (c : Nat) (z : Str), x = .str ⟨#[c]⟩ ∧ y = .str z ∧ Q (.bl (decide (c ∈ z.cps.toList))) H) ta tb) env
    (bnd ma fun a => bnd mb fun b => fun n Q => ∃ c, a = ⟨#[c]⟩ ∧ Q (decide (c ∈ b.cps.toList)) n) :=
  ev_bin (mr := fun a b => fun n Q => ∃ c, a = ⟨#[c]⟩ ∧ Q (decide (c ∈ b.cps.toList)) n) (fun x y a b n σ Hs H k rx ry Qd q Q w => by
    obtain ⟨c, e, q⟩ := q
    rw [rep_str rx, rep_str ry, e]
    exact ⟨c, b, rfl, rfl, w _ n _ Hs H q k .refl (.bl _)⟩) ha hb
/-! tests -/
theorem et_val {m : M Bool} (h : EvM f te env m) : EtM f (tB te) env m := fun n σ Hs H k Qd q Q w => h n σ Hs H k _ q _ fun b n' v Hs' H' qb k' s r => ⟨b, rep_bl r, w b n' Hs' H' qb k' s⟩
theorem et_test {m : M Bool} (h : EvM f te env m) : EtM f (tTest te) env m := fun n σ Hs H k Qd q Q w => h n σ Hs H k _ q _ fun b n' v Hs' H' qb k' s r => ⟨b, rep_bl r, w b n' Hs' H' qb k' s⟩
/-- in short: a, and then b -/
abbrev andM (ma mb : M Bool) : M Bool := bnd ma fun a => fun n Q => (a = true → mb n Q) ∧ (a = false → Q false n)
abbrev orM (ma mb : M Bool) : M Bool := bnd ma fun a => fun n Q => (a = true → Q true n) ∧ (a = false → mb n Q)
abbrev notM (ma : M Bool) : M Bool := bnd ma fun a => ret (!a)
theorem et_and {ma mb : M Bool} (ha : EtM f tt env ma) (hb : EtM f uu env mb) : EtM f (tAnd tt uu) env (andM ma mb) := fun n σ Hs H k Qd q Q w =>
  ha n σ Hs H k _ q _ fun a n1 Hs1 H1 q1 k1 s1 => by
    cases a with
    | true => exact hb n1 σ Hs1 H1 k1 _ (q1.1 rfl) _ fun b n2 Hs2 H2 q2 k2 s2 => w b n2 Hs2 H2 q2 k2 (s1.trans s2)
    | false => exact w false n1 Hs1 H1 (q1.2 rfl) k1 s1
theorem et_or {ma mb : M Bool} (ha : EtM f tt env ma) (hb : EtM f uu env mb) : EtM f (tOr tt uu) env (orM ma mb) := fun n σ Hs H k Qd q Q w =>
  ha n σ Hs H k _ q _ fun a n1 Hs1 H1 q1 k1 s1 => by
    cases a with
    | true => exact w true n1 Hs1 H1 (q1.1 rfl) k1 s1
    | false => exact hb n1 σ Hs1 H1 k1 _ (q1.2 rfl) _ fun b n2 Hs2 H2 q2 k2 s2 => w b n2 Hs2 H2 q2 k2 (s1.trans s2)
theorem et_not {ma : M Bool} (ha : EtM f tt env ma) : EtM f (tNot tt) env (notM ma) := fun n σ Hs H k Qd q Q w => ha n σ Hs H k _ q _ fun a n1 Hs1 H1 q1 k1 s1 => w (!a) n1 Hs1 H1 q1 k1 s1
theorem ev_andV {ma mb : M Bool} (ha : EvM f ta env ma) (hb : EvM f tb env mb) : EvM f (tAndV ta tb) env (andM ma mb) := fun n σ Hs H k Qd q Q w =>
  ha n σ Hs H k _ q _ fun a n1 v Hs1 H1 q1 k1 s1 r1 => ⟨a, rep_bl r1, by
    cases a with
    | true => exact hb n1 σ Hs1 H1 k1 _ (q1.1 rfl) _ fun b n2 v2 Hs2 H2 q2 k2 s2 r2 => w b n2 v2 Hs2 H2 q2 k2 (s1.trans s2) r2
    | false => exact w false n1 _ Hs1 H1 (q1.2 rfl) k1 s1 (.bl _)⟩
theorem ev_orV {ma mb : M Bool} (ha : EvM f ta env ma) (hb : EvM f tb env mb) : EvM f (tOrV ta tb) env (orM ma mb) := fun n σ Hs H k Qd q Q w =>
  ha n σ Hs H k _ q _ fun a n1 v Hs1 H1 q1 k1 s1 r1 => ⟨a, rep_bl r1, by
    cases a with
    | true => exact w true n1 _ Hs1 H1 (q1.1 rfl) k1 s1 (.bl _)
    | false => exact hb n1 σ Hs1 H1 k1 _ (q1.2 rfl) _ fun b n2 v2 Hs2 H2 q2 k2 s2 r2 => w b n2 v2 Hs2 H2 q2 k2 (s1.trans s2) r2⟩
theorem ev_notV {ma : M Bool} (ha : EvM f ta env ma) : EvM f (tNotV ta) env (notM ma) := fun n σ Hs H k Qd q Q w => ha n σ Hs H k _ q _ fun a n1 v Hs1 H1 q1 k1 s1 r1 => ⟨a, rep_bl r1, w (!a) n1 _ Hs1 H1 q1 k1 s1 (.bl _)⟩
abbrev iteM (mc : M Bool) (ma mb : M α) : M α := bnd mc fun c => fun n Q => (c = true → ma n Q) ∧ (c = false → mb n Q)
theorem ev_if {mc : M Bool} {ma mb : M α} (hc : EtM f tt env mc) (ha : EvM f ta env ma) (hb : EvM f tb env mb) : EvM f (tIf tt ta tb) env (iteM mc ma mb) := fun n σ Hs H k Qd q Q w =>
  hc n σ Hs H k _ q _ fun c n1 Hs1 H1 q1 k1 s1 => by
    cases c with
    | true => exact ha n1 σ Hs1 H1 k1 _ (q1.1 rfl) _ fun b n2 v2 Hs2 H2 q2 k2 s2 r2 => w b n2 v2 Hs2 H2 q2 k2 (s1.trans s2) r2
    | false => exact hb n1 σ Hs1 H1 k1 _ (q1.2 rfl) _ fun b n2 v2 Hs2 H2 q2 k2 s2 r2 => w b n2 v2 Hs2 H2 q2 k2 (s1.trans s2) r2
theorem en_if {mc : M Bool} {ma mb : M (List α)} (hc : EtM f tt env mc) (ha : EnM f ta env ma) (hb : EnM f tb env mb) : EnM f (tIf tt ta tb) env (iteM mc ma mb) := fun n σ Hs H k Qd q Q w =>
  hc n σ Hs H k _ q _ fun c n1 Hs1 H1 q1 k1 s1 => by
    cases c with
    | true => exact ha n1 σ Hs1 H1 k1 _ (q1.1 rfl) _ fun b n2 v2 vs Hs2 H2 q2 k2 s2 r2 => w b n2 v2 vs Hs2 H2 q2 k2 (s1.trans s2) (r2.back s1)
    | false => exact hb n1 σ Hs1 H1 k1 _ (q1.2 rfl) _ fun b n2 v2 vs Hs2 H2 q2 k2 s2 r2 => w b n2 v2 vs Hs2 H2 q2 k2 (s1.trans s2) (r2.back s1)
/-- x < y < z -/
theorem ev_chain {r r' : R2} {p1 p2 : Int → Int → Bool} {ma mb mc : M Int} (h1 : r = rI0 fun i j => .bl (p1 i j)) (h2 : r' = rI0 fun i j => .bl (p2 i j)) (ha : EvM f ta env ma) (hb : EvM f tb env mb) (hc : EvM f tc env mc) :
    EvM f (tChain r r' ta tb tc) env (bnd ma fun a => bnd mb fun b => fun n Q => (p1 a b = true → (bnd mc fun c => ret (p2 b c)) n Q) ∧ (p1 a b = false → Q false n)) := fun n σ Hs H k Qd q Q w => by
  subst h1
  subst h2
  refine ha n σ Hs H k _ q _ fun a n1 x Hs1 H1 q1 k1 s1 r1 => hb n1 σ Hs1 H1 k1 _ q1 _ fun b n2 y Hs2 H2 q2 k2 s2 r2 => ?_
  rw [rep_int r1, rep_int r2]
  refine ⟨a, b, rfl, rfl, _, rfl, ?_⟩
  cases e : p1 a b with
  | true =>
    refine hc n2 σ Hs2 H2 k2 _ (q2.1 e) _ fun c n3 z Hs3 H3 q3 k3 s3 r3 => ?_
    rw [rep_int r3]
    exact ⟨b, c, rfl, rfl, w _ n3 _ Hs3 H3 q3 k3 ((s1.trans s2).trans s3) (.bl _)⟩
  | false => exact w _ n2 _ Hs2 H2 (q2.2 e) k2 (s1.trans s2) (.bl _)
end
end WH
namespace WH
open PySem PySem.Spec PyProof.Rows L2
open Enc (enc)
open EncL (encl)
section
variable {f : Fr} {env : DE} {α β γ δ : Type} [Enc α] [Enc β] [Enc γ] [Enc δ] {ta tb tc td te : TE} {tt uu : TT} {tas : TA} {K : PySem.W.Frag}
/-! ### displays, arguments -/
theorem ei_nil : EiM f (α := α) 0 tNil env (ret []) := fun n σ Hs H k Qd q Q w => w [] n [] Hs H q k .refl .nil rfl
theorem ei_cons {m : M α} {ms : M (List α)} {k : Nat} (ha : EvM f ta env m) (hr : EiM f k tas env ms) : EiM f (k + 1) (tCons ta tas) env (bnd m fun a => bnd ms fun r => ret (a :: r)) := fun n σ Hs H ok Qd q Q w =>
  ha n σ Hs H ok _ q _ fun a n1 v Hs1 H1 q1 k1 s1 r1 => hr n1 σ Hs1 H1 k1 _ q1 _ fun r n2 vs Hs2 H2 q2 k2 s2 r2 l2 => w (a :: r) n2 (v :: vs) Hs2 H2 q2 k2 (s1.trans s2) (.cons (r1.same s2.s) r2) (by rw [List.length_cons, l2])
theorem en_lst {ms : M (List α)} {k : Nat} (h : EiM f k tas env ms) (hk : k ≤ 1000) : EnM f (tLst tas) env ms := fun n σ Hs H ok Qd q Q w =>
  h n σ Hs H ok _ q _ fun xs n1 vs Hs1 H1 q1 k1 s1 r1 l1 => ⟨lim_size (by rw [r1.len, List.length_map]; unfold LIM; omega), fun p np => by
    obtain ⟨k2, nw, x2⟩ := k1.newU (vs := vs) np
    exact w xs n1 p vs Hs1 _ q1 k2 (s1.trans x2) (nw.back s1) r1⟩
theorem ea_nil : EaM f (τ := Unit) tNil env (ret ()) := fun n σ Hs H k Qd q Q w => w () n [] Hs H q k .refl .nil
theorem ea_cons {τ : Type} [EncL τ] {m : M α} {ms : M τ} (ha : EvM f ta env m) (hr : EaM f tas env ms) : EaM f (τ := α × τ) (tCons ta tas) env (bnd m fun a => bnd ms fun r => ret (a, r)) := fun n σ Hs H ok Qd q Q w =>
  ha n σ Hs H ok _ q _ fun a n1 v Hs1 H1 q1 k1 s1 r1 => hr n1 σ Hs1 H1 k1 _ q1 _ fun r n2 vs Hs2 H2 q2 k2 s2 r2 => w (a, r) n2 (v :: vs) Hs2 H2 q2 k2 (s1.trans s2) (.cons (r1.same s2.s) r2)
theorem ev_tupE {τ : Type} [EncL τ] {ms : M τ} (g : τ → α) (hg : ∀ x, enc (g x) = .tup (encl x)) (hl : ∀ x : τ, (encl x).length ≤ 10) (h : EaM f tas env ms) : EvM f (tTup tas) env (bnd ms fun x => ret (g x)) := fun n σ Hs H ok Qd q Q w =>
  h n σ Hs H ok _ q _ fun x n1 vs Hs1 H1 q1 k1 s1 r1 => ⟨lim_size (by rw [r1.len]; have := hl x; unfold LIM; omega), fun p np => by
    have hs := k1.hs np
    exact w (g x) n1 _ _ _ q1 (k1.allocS (o := .tup vs) np) (s1.trans (k1.extS np)) (by rw [hg]; exact .tup (tupO upd_same) (r1.same (same_upd hs)))⟩
theorem ev_tup2 {ma : M α} {mb : M β} (ha : EvM f ta env ma) (hb : EvM f tb env mb) : EvM f (tTup (tCons ta (tCons tb tNil))) env (bnd ma fun a => bnd mb fun b => ret (a, b)) :=
  ev_tupE (α := α × β) (τ := α × β × Unit) (fun x => (x.1, x.2.1)) (fun x => rfl) (fun x => by show 2 ≤ 10; decide) (ea_cons ha (ea_cons hb ea_nil))
theorem ev_tup3 {ma : M α} {mb : M β} {mc : M γ} (ha : EvM f ta env ma) (hb : EvM f tb env mb) (hc : EvM f tc env mc) : EvM f (tTup (tCons ta (tCons tb (tCons tc tNil)))) env (bnd ma fun a => bnd mb fun b => bnd mc fun c => ret (T3.mk a b c)) :=
  ev_tupE (α := T3 α β γ) (τ := α × β × γ × Unit) (fun x => ⟨x.1, x.2.1, x.2.2.1⟩) (fun x => rfl) (fun x => by show 3 ≤ 10; decide) (ea_cons ha (ea_cons hb (ea_cons hc ea_nil)))
theorem ev_tup4 {ma : M α} {mb : M β} {mc : M γ} {md : M δ} (ha : EvM f ta env ma) (hb : EvM f tb env mb) (hc : EvM f tc env mc) (hd : EvM f td env md) : EvM f (tTup (tCons ta (tCons tb (tCons tc (tCons td tNil))))) env (bnd ma fun a => bnd mb fun b => bnd mc fun c => bnd md fun d => ret (T4.mk a b c d)) :=
  ev_tupE (α := T4 α β γ δ) (τ := α × β × γ × δ × Unit) (fun x => ⟨x.1, x.2.1, x.2.2.1, x.2.2.2.1⟩) (fun x => rfl) (fun x => by show 4 ≤ 10; decide) (ea_cons ha (ea_cons hb (ea_cons hc (ea_cons hd ea_nil))))
/-! ### lists as values of their items -/
theorem repL_str {C : CK} {H : Hp} : ∀ {vs : List V} {xs : List Str}, RepL C H vs (xs.map enc) → vs = xs.map V.str
  | _, [], h => by
    cases h
    rfl
  | _, x :: xs, h => by
    cases h with
    | cons h1 h2 => rw [rep_str h1, repL_str h2]; rfl
theorem repL_int {C : CK} {H : Hp} : ∀ {vs : List V} {xs : List Int}, RepL C H vs (xs.map enc) → vs = xs.map V.int
  | _, [], h => by
    cases h
    rfl
  | _, x :: xs, h => by
    cases h with
    | cons h1 h2 => rw [rep_int h1, repL_int h2]; rfl
theorem repL_bl {C : CK} {H : Hp} : ∀ {vs : List V} {xs : List Bool}, RepL C H vs (xs.map enc) → vs = xs.map V.bl
  | _, [], h => by
    cases h
    rfl
  | _, x :: xs, h => by
    cases h with
    | cons h1 h2 => rw [rep_bl h1, repL_bl h2]; rfl
theorem rep_strs {C : CK} {H : Hp} : ∀ {xs : List Str}, RepL C H (xs.map V.str) (xs.map enc)
  | [] => .nil
  | x :: xs => .cons (.str x) rep_strs
theorem rep_ints {C : CK} {H : Hp} : ∀ {xs : List Int}, RepL C H (xs.map V.int) (xs.map enc)
  | [] => .nil
  | x :: xs => .cons (.int x) rep_ints
/-! ### a list, whosever it is -/
def ElM (f : Fr) {α : Type} [Enc α] (te : TE) (env : DE) (m : M (List α)) : Prop := ∀ n σ Hs H, OkS f env n σ Hs H → ∀ Qd, m n Qd → ∀ Q : VK,
  (∀ xs n' p vs Hs' H', Qd xs n' → OkS f env n' σ Hs' H' → Ext f Hs H Hs' H' → some p ≠ f.P → H' p = some (.lst vs) → RepL f.C Hs' vs (xs.map enc) → Q (.ref p) H') → te σ H Q
theorem OkS.notP {n : Int} {σ : Sl} {Hs H : Hp} {p : Addr} (k : OkS f env n σ Hs H) (h : f.H0 p = none ∨ Hs p ≠ none) : some p ≠ f.P := fun z => by
  obtain ⟨q1, q2, q3⟩ := k.pool p z.symm
  rcases h with h | h
  · exact q3 h
  · exact h q2
theorem el_ev {m : M (List α)} (h : EvM f te env m) : ElM f te env m := fun n σ Hs H k Qd q Q w => h n σ Hs H k _ q _ fun xs n1 v Hs1 H1 q1 k1 s1 r1 => by
  obtain ⟨p, vs, rfl, h1, h2⟩ := rep_lst r1
  exact w xs n1 p vs Hs1 H1 q1 k1 s1 (k1.notP (.inr (by rw [h1]; exact Option.some_ne_none _))) (k1.sub _ _ h1) h2
theorem el_en {m : M (List α)} (h : EnM f te env m) : ElM f te env m := fun n σ Hs H k Qd q Q w => h n σ Hs H k _ q _ fun xs n1 p vs Hs1 H1 q1 k1 s1 nw r1 =>
  w xs n1 p vs Hs1 H1 q1 k1 s1 (k1.notP (.inl nw.h0)) nw.h r1
theorem el_own {i : Nat} {xs : List α} (h : env[i]? = some (some (.ow (xs.map enc)))) : ElM f (tVar i) env (ret xs) := fun n σ Hs H k Qd q Q w => by
  have hi : i < σ.length := by
    have := (List.getElem?_eq_some_iff.mp h).1
    rw [k.len] at this
    exact this
  obtain ⟨a, vs, h1, h2, h3, h4, h5⟩ := k.sl i _ _ h (List.getElem?_eq_getElem hi)
  exact ⟨.ref a, by rw [List.getElem?_eq_getElem hi, h1], w xs n a vs Hs H q k .refl (k.notP (.inl h3)) h4 h5⟩
theorem ev_binL {r : R2} {ma : M (List α)} {mb : M β} {mr : List α → β → M γ} (hr : ∀ p vs y a b n σ Hs H, OkS f env n σ Hs H → H p = some (.lst vs) → RepL f.C Hs vs (a.map enc) → Rep f.C Hs y (enc b) → ∀ Qd, mr a b n Qd → ∀ Q : VK,
      (∀ c n' v Hs' H', Qd c n' → OkS f env n' σ Hs' H' → Ext f Hs H Hs' H' → Rep f.C Hs' v (enc c) → Q v H') → r (.ref p) y H Q) (ha : ElM f ta env ma) (hb : EvM f tb env mb) :
    EvM f (tOp r ta tb) env (bnd ma fun a => bnd mb fun b => mr a b) := fun n σ Hs H k Qd q Q w =>
  ha n σ Hs H k _ q _ fun a n1 p vs Hs1 H1 q1 k1 s1 np h1 r1 => hb n1 σ Hs1 H1 k1 _ q1 _ fun b n2 y Hs2 H2 q2 k2 s2 r2 =>
    hr p vs y a b n2 σ Hs2 H2 k2 (s2.k _ _ np h1) (r1.same s2.s) r2 _ q2 Q fun c n3 v Hs3 H3 q3 k3 s3 r3 => w c n3 v Hs3 H3 q3 k3 ((s1.trans s2).trans s3) r3
theorem ev_binR {r : R2} {ma : M α} {mb : M (List β)} {mr : α → List β → M γ} (hr : ∀ x p vs a b n σ Hs H, OkS f env n σ Hs H → Rep f.C Hs x (enc a) → H p = some (.lst vs) → RepL f.C Hs vs (b.map enc) → ∀ Qd, mr a b n Qd → ∀ Q : VK,
      (∀ c n' v Hs' H', Qd c n' → OkS f env n' σ Hs' H' → Ext f Hs H Hs' H' → Rep f.C Hs' v (enc c) → Q v H') → r x (.ref p) H Q) (ha : EvM f ta env ma) (hb : ElM f tb env mb) :
    EvM f (tOp r ta tb) env (bnd ma fun a => bnd mb fun b => mr a b) := fun n σ Hs H k Qd q Q w =>
  ha n σ Hs H k _ q _ fun a n1 x Hs1 H1 q1 k1 s1 r1 => hb n1 σ Hs1 H1 k1 _ q1 _ fun b n2 p vs Hs2 H2 q2 k2 s2 np h2 r2 =>
    hr x p vs a b n2 σ Hs2 H2 k2 (r1.same s2.s) h2 r2 _ q2 Q fun c n3 v Hs3 H3 q3 k3 s3 r3 => w c n3 v Hs3 H3 q3 k3 ((s1.trans s2).trans s3) r3
theorem en_binLL {r : R2} {ma : M (List α)} {mb : M (List β)} {mr : List α → List β → M (List γ)} (hr : ∀ p vs p2 us a b n σ Hs H, OkS f env n σ Hs H → H p = some (.lst vs) → RepL f.C Hs vs (a.map enc) → H p2 = some (.lst us) → RepL f.C Hs us (b.map enc) → ∀ Qd, mr a b n Qd → ∀ Q : VK,
      (∀ c n' p vs Hs' H', Qd c n' → OkS f env n' σ Hs' H' → Ext f Hs H Hs' H' → NewAt f env σ H Hs' H' p vs → RepL f.C Hs' vs (c.map enc) → Q (.ref p) H') → r (.ref p) (.ref p2) H Q) (ha : ElM f ta env ma) (hb : ElM f tb env mb) :
    EnM f (tOp r ta tb) env (bnd ma fun a => bnd mb fun b => mr a b) := fun n σ Hs H k Qd q Q w =>
  ha n σ Hs H k _ q _ fun a n1 p vs Hs1 H1 q1 k1 s1 np h1 r1 => hb n1 σ Hs1 H1 k1 _ q1 _ fun b n2 p2 us Hs2 H2 q2 k2 s2 np2 h2 r2 =>
    hr p vs p2 us a b n2 σ Hs2 H2 k2 (s2.k _ _ np h1) (r1.same s2.s) h2 r2 _ q2 Q fun c n3 p3 vs3 Hs3 H3 q3 k3 s3 nw r3 => w c n3 p3 vs3 Hs3 H3 q3 k3 ((s1.trans s2).trans s3) (nw.back (s1.trans s2)) r3
theorem en_binL {r : R2} {ma : M (List α)} {mb : M β} {mr : List α → β → M (List γ)} (hr : ∀ p vs y a b n σ Hs H, OkS f env n σ Hs H → H p = some (.lst vs) → RepL f.C Hs vs (a.map enc) → Rep f.C Hs y (enc b) → ∀ Qd, mr a b n Qd → ∀ Q : VK,
      (∀ c n' p vs Hs' H', Qd c n' → OkS f env n' σ Hs' H' → Ext f Hs H Hs' H' → NewAt f env σ H Hs' H' p vs → RepL f.C Hs' vs (c.map enc) → Q (.ref p) H') → r (.ref p) y H Q) (ha : ElM f ta env ma) (hb : EvM f tb env mb) :
    EnM f (tOp r ta tb) env (bnd ma fun a => bnd mb fun b => mr a b) := fun n σ Hs H k Qd q Q w =>
  ha n σ Hs H k _ q _ fun a n1 p vs Hs1 H1 q1 k1 s1 np h1 r1 => hb n1 σ Hs1 H1 k1 _ q1 _ fun b n2 y Hs2 H2 q2 k2 s2 r2 =>
    hr p vs y a b n2 σ Hs2 H2 k2 (s2.k _ _ np h1) (r1.same s2.s) r2 _ q2 Q fun c n3 p3 vs3 Hs3 H3 q3 k3 s3 nw r3 => w c n3 p3 vs3 Hs3 H3 q3 k3 ((s1.trans s2).trans s3) (nw.back (s1.trans s2)) r3
/-! ### items, slices, lengths -/
abbrev atM (xs : List α) (i : Int) : M α := fun n Q => ∃ a, atI xs i = some a ∧ Q a n
theorem ev_ixL {ms : M (List α)} {mi : M Int} (ha : ElM f ta env ms) (hb : EvM f tb env mi) : EvM f (tOp (rIxL K) ta tb) env (bnd ms fun xs => bnd mi fun i => atM xs i) :=
  ev_binL (mr := fun xs i => atM xs i) (fun a vs y xs i n σ Hs H k h1 h2 ry Qd q Q w => by
    rw [rep_int ry]
    obtain ⟨c, e, q⟩ := q
    unfold atI at e
    cases h3 : ixN xs.length i with
    | none =>
      rw [h3] at e
      cases e
    | some j =>
      rw [h3] at e
      have e : xs[j]? = some c := e
      obtain ⟨v, e1, e2⟩ := h2.get j (enc c) (by rw [List.getElem?_map, e]; rfl)
      refine ⟨a, vs, i, v, rfl, rfl, SqL.of h1, ?_, w c n v Hs H q k .refl e2⟩
      unfold atI
      have hl := h2.len
      rw [List.length_map] at hl
      rw [hl, h3]
      exact e1) ha hb
theorem ev_ixS {ms : M Str} {mi : M Int} (ha : EvM f ta env ms) (hb : EvM f tb env mi) : EvM f (tOp rIxS ta tb) env (bnd ms fun z => bnd mi fun i => fun n Q => z.length ≤ LIM ∧ ∃ c, atI z.cps.toList i = some c ∧ Q (⟨#[c]⟩ : Str) n) :=
  ev_bin (mr := fun (z : Str) (i : Int) => fun n Q => z.length ≤ LIM ∧ ∃ c, atI z.cps.toList i = some c ∧ Q (⟨#[c]⟩ : Str) n) (fun x y z i n σ Hs H k rx ry Qd q Q w => by
    obtain ⟨hz, c, e, q⟩ := q
    rw [rep_str rx, rep_int ry]
    exact ⟨z, i, c, rfl, rfl, lim_size hz, e, w _ n _ Hs H q k .refl (.str _)⟩) ha hb
/-- a part of a tuple, by a written number -/
theorem ev_ixT {ms : M α} {i : Nat} {g : α → β} {ds : α → List Dt} (hd : ∀ a, enc a = .tup (ds a)) (hg : ∀ a, (ds a)[i]? = some (enc (g a))) (ha : EvM f ta env ms) : EvM f (tOp (rIxT f.C.k) ta (tC (.int i))) env (bnd ms fun a => ret (g a)) := fun n σ Hs H k Qd q Q w =>
  ha n σ Hs H k _ q _ fun a n1 v Hs1 H1 q1 k1 s1 r1 => by
    rw [hd] at r1
    obtain ⟨p, vs, rfl, h1, h2⟩ := rep_tup r1
    obtain ⟨u, e1, e2⟩ := h2.get i _ (hg a)
    exact ⟨p, vs, i, u, rfl, rfl, sqRd (rdUp h1 k1.sub), atI_nat e1, w _ n1 u Hs1 H1 q1 k1 s1 e2⟩
theorem eo_none : EoM f tNoPart env (ret none) := fun n σ Hs H k Qd q Q w => w none n Hs H q k .refl
theorem eo_some {m : M Int} (h : EvM f te env m) : EoM f (tPart te) env (bnd m fun i => ret (some i)) := fun n σ Hs H k Qd q Q w => h n σ Hs H k _ q _ fun i n' v Hs' H' qi k' s r => ⟨i, rep_int r, w (some i) n' Hs' H' qi k' s⟩
def cutL {α : Type} (xs : List α) (lo hi : Option Int) : List α := (xs.drop (HT.sIx xs.length 0 lo)).take (HT.sIx xs.length xs.length hi - HT.sIx xs.length 0 lo)
variable {tl th : TO} {ml mh : M (Option Int)}
theorem en_slL {ms : M (List α)} (ha : ElM f ta env ms) (hl : EoM f tl env ml) (hh : EoM f th env mh) : EnM f (tSl (rSlL K) ta tl th) env (bnd ms fun xs => bnd ml fun lo => bnd mh fun hi => ret (cutL xs lo hi)) := fun n σ Hs H k Qd q Q w =>
  ha n σ Hs H k _ q _ fun xs n1 a vs Hs1 H1 q1 k1 s1 np h1 h2 => hl n1 σ Hs1 H1 k1 _ q1 _ fun lo n2 Hs2 H2 q2 k2 s2 => hh n2 σ Hs2 H2 k2 _ q2 _ fun hi n3 Hs3 H3 q3 k3 s3 => by
    refine ⟨a, vs, rfl, SqL.of (s3.k _ _ np (s2.k _ _ np h1)), fun p np => ?_⟩
    obtain ⟨k4, nw, x4⟩ := k3.newU (vs := cutV vs lo hi) np
    refine w _ n3 p _ Hs3 _ q3 k4 (((s1.trans s2).trans s3).trans x4) (nw.back ((s1.trans s2).trans s3)) ?_
    have hln := h2.len
    rw [List.length_map] at hln
    have e : cutV vs lo hi = (vs.drop (HT.sIx xs.length 0 lo)).take (HT.sIx xs.length xs.length hi - HT.sIx xs.length 0 lo) := by
      unfold cutV
      rw [hln]
    rw [e]
    unfold cutL
    rw [List.map_take, List.map_drop]
    exact ((h2.same (s2.s.trans s3.s)).drop _).take _
theorem ev_slS {ms : M Str} (ha : EvM f ta env ms) (hl : EoM f tl env ml) (hh : EoM f th env mh) : EvM f (tSl rSlS ta tl th) env (bnd ms fun z => bnd ml fun lo => bnd mh fun hi => need (z.length ≤ LIM) (ret (cutS z lo hi))) := fun n σ Hs H k Qd q Q w =>
  ha n σ Hs H k _ q _ fun z n1 v Hs1 H1 q1 k1 s1 r1 => hl n1 σ Hs1 H1 k1 _ q1 _ fun lo n2 Hs2 H2 q2 k2 s2 => hh n2 σ Hs2 H2 k2 _ q2 _ fun hi n3 Hs3 H3 q3 k3 s3 => by
    rw [rep_str r1]
    exact ⟨z, rfl, lim_size q3.1, w _ n3 _ Hs3 H3 q3.2 k3 ((s1.trans s2).trans s3) (.str _)⟩
theorem ev_cbL {r : List V → Hp → VK → Prop} {m : M (List α)} {mr : List α → M β} (hr : ∀ p vs a n σ Hs H, OkS f env n σ Hs H → H p = some (.lst vs) → RepL f.C Hs vs (a.map enc) → ∀ Qd, mr a n Qd → ∀ Q : VK,
      (∀ c n' v Hs' H', Qd c n' → OkS f env n' σ Hs' H' → Ext f Hs H Hs' H' → Rep f.C Hs' v (enc c) → Q v H') → r [.ref p] H Q) (ha : ElM f ta env m) : EvM f (tCB r (tCons ta tNil)) env (bnd m mr) := fun n σ Hs H k Qd q Q w =>
  ha n σ Hs H k _ q _ fun a n1 p vs Hs1 H1 q1 k1 s1 np h1 r1 => hr p vs a n1 σ Hs1 H1 k1 h1 r1 _ q1 Q fun c n2 v2 Hs2 H2 q2 k2 s2 r2 => w c n2 v2 Hs2 H2 q2 k2 (s1.trans s2) r2
theorem en_cbL {r : List V → Hp → VK → Prop} {m : M (List α)} {mr : List α → M (List β)} (hr : ∀ p vs a n σ Hs H, OkS f env n σ Hs H → H p = some (.lst vs) → RepL f.C Hs vs (a.map enc) → ∀ Qd, mr a n Qd → ∀ Q : VK,
      (∀ c n' p vs Hs' H', Qd c n' → OkS f env n' σ Hs' H' → Ext f Hs H Hs' H' → NewAt f env σ H Hs' H' p vs → RepL f.C Hs' vs (c.map enc) → Q (.ref p) H') → r [.ref p] H Q) (ha : ElM f ta env m) : EnM f (tCB r (tCons ta tNil)) env (bnd m mr) := fun n σ Hs H k Qd q Q w =>
  ha n σ Hs H k _ q _ fun a n1 p vs Hs1 H1 q1 k1 s1 np h1 r1 => hr p vs a n1 σ Hs1 H1 k1 h1 r1 _ q1 Q fun c n2 p2 vs2 Hs2 H2 q2 k2 s2 nw r2 => w c n2 p2 vs2 Hs2 H2 q2 k2 (s1.trans s2) (nw.back s1) r2
theorem ev_cb1 {r : List V → Hp → VK → Prop} {m : M α} {mr : α → M β} (hr : ∀ x a n σ Hs H, OkS f env n σ Hs H → Rep f.C Hs x (enc a) → ∀ Qd, mr a n Qd → ∀ Q : VK,
      (∀ c n' v Hs' H', Qd c n' → OkS f env n' σ Hs' H' → Ext f Hs H Hs' H' → Rep f.C Hs' v (enc c) → Q v H') → r [x] H Q) (ha : EvM f ta env m) : EvM f (tCB r (tCons ta tNil)) env (bnd m mr) := fun n σ Hs H k Qd q Q w =>
  ha n σ Hs H k _ q _ fun a n1 v Hs1 H1 q1 k1 s1 r1 => hr v a n1 σ Hs1 H1 k1 r1 _ q1 Q fun c n2 v2 Hs2 H2 q2 k2 s2 r2 => w c n2 v2 Hs2 H2 q2 k2 (s1.trans s2) r2
theorem en_cb1 {r : List V → Hp → VK → Prop} {m : M α} {mr : α → M (List β)} (hr : ∀ x a n σ Hs H, OkS f env n σ Hs H → Rep f.C Hs x (enc a) → ∀ Qd, mr a n Qd → ∀ Q : VK,
      (∀ c n' p vs Hs' H', Qd c n' → OkS f env n' σ Hs' H' → Ext f Hs H Hs' H' → NewAt f env σ H Hs' H' p vs → RepL f.C Hs' vs (c.map enc) → Q (.ref p) H') → r [x] H Q) (ha : EvM f ta env m) : EnM f (tCB r (tCons ta tNil)) env (bnd m mr) := fun n σ Hs H k Qd q Q w =>
  ha n σ Hs H k _ q _ fun a n1 v Hs1 H1 q1 k1 s1 r1 => hr v a n1 σ Hs1 H1 k1 r1 _ q1 Q fun c n2 p vs Hs2 H2 q2 k2 s2 nw r2 => w c n2 p vs Hs2 H2 q2 k2 (s1.trans s2) (nw.back s1) r2
theorem ev_lenL {m : M (List α)} (ha : ElM f ta env m) : EvM f (tCB (fun xs H Q => ∃ p ys, xs = [.ref p] ∧ (SqL K H p ys ∨ SqT K H p ys) ∧ Q (.int ys.length) H) (tCons ta tNil)) env (bnd m fun xs => ret ((xs.length : Nat) : Int)) :=
  ev_cbL (mr := fun xs => ret ((xs.length : Nat) : Int)) (fun p vs a n σ Hs H k h1 h2 Qd q Q w => by
    have hl := h2.len
    rw [List.length_map] at hl
    exact ⟨p, vs, rfl, .inl (SqL.of h1), w _ n _ Hs H q k .refl (by rw [hl]; exact .int _)⟩) ha
theorem ev_lenS {m : M Str} (ha : EvM f ta env m) : EvM f (tCB (fun xs H Q => ∃ z, xs = [.str z] ∧ z.length ≤ sizeLine ∧ Q (.int z.length) H) (tCons ta tNil)) env (bnd m fun z => need (z.length ≤ LIM) (ret ((z.length : Nat) : Int))) :=
  ev_cb1 (mr := fun (z : Str) => need (z.length ≤ LIM) (ret ((z.length : Nat) : Int))) (fun x a n σ Hs H k rx Qd q Q w => by
    rw [rep_str rx]
    exact ⟨a, rfl, lim_size q.1, w _ n _ Hs H q.2 k .refl (.int _)⟩) ha
theorem en_listOf {m : M (List α)} (ha : ElM f ta env m) : EnM f (tCB (fun xs H Q => ∃ p ys, xs = [.ref p] ∧ (SqL K H p ys ∨ SqT K H p ys) ∧ ∀ l, H l = none → Q (.ref l) (upd H l (.lst ys))) (tCons ta tNil)) env m :=
  fun n σ Hs H k Qd q Q w => ha n σ Hs H k _ q _ fun xs n1 p vs Hs1 H1 q1 k1 s1 np h1 h2 => by
    refine ⟨p, vs, rfl, .inl (SqL.of h1), fun l nl => ?_⟩
    obtain ⟨k2, nw, x2⟩ := k1.newU (vs := vs) nl
    exact w xs n1 l vs Hs1 _ q1 k2 (s1.trans x2) (nw.back s1) h2
theorem ev_all {m : M (List Bool)} (ha : ElM f ta env m) : EvM f (tCB (rAll K) (tCons ta tNil)) env (bnd m fun bs => ret (bs.all id)) :=
  ev_cbL (mr := fun bs => ret (bs.all id)) (fun p vs a n σ Hs H k h1 h2 Qd q Q w => by
    rw [repL_bl h2] at h1
    exact ⟨p, a, rfl, SqL.of h1, w _ n _ Hs H q k .refl (.bl _)⟩) ha
theorem ev_any {m : M (List Bool)} (ha : ElM f ta env m) : EvM f (tCB (rAny K) (tCons ta tNil)) env (bnd m fun bs => ret (bs.any id)) :=
  ev_cbL (mr := fun bs => ret (bs.any id)) (fun p vs a n σ Hs H k h1 h2 Qd q Q w => by
    rw [repL_bl h2] at h1
    exact ⟨p, a, rfl, SqL.of h1, w _ n _ Hs H q k .refl (.bl _)⟩) ha
theorem ev_sum {m : M (List Int)} (ha : ElM f ta env m) : EvM f (tCB (rSum K) (tCons ta tNil)) env (bnd m fun bs => ret (bs.sum)) :=
  ev_cbL (mr := fun bs => ret (bs.sum)) (fun p vs a n σ Hs H k h1 h2 Qd q Q w => by
    rw [repL_int h2] at h1
    exact ⟨p, a, rfl, SqL.of h1, w _ n _ Hs H q k .refl (.int _)⟩) ha
/-- sorted(list of texts) -/
theorem en_sortedS {m : M (List Str)} (ha : ElM f ta env m) : EnM f (tCB (rSortedS K) (tCons ta tNil)) env (bnd m fun xs => fun n Q => xs.length < 64 ∧ ∀ ys : List Str, ys.Perm xs → sortedS ys = true → Q ys n) :=
  en_cbL (mr := fun (xs : List Str) => fun n Q => xs.length < 64 ∧ ∀ ys : List Str, ys.Perm xs → sortedS ys = true → Q ys n) (fun p vs a n σ Hs H k h1 h2 Qd q Q w => by
    rw [repL_str h2] at h1
    refine ⟨p, a, rfl, SqL.of h1, q.1, fun ys l hp hs nl => ?_⟩
    obtain ⟨k2, nw, x2⟩ := k.newU (vs := ys.map V.str) nl
    exact w ys n l _ Hs _ (q.2 ys hp hs) k2 x2 nw rep_strs) ha
/-- x in a list of texts -/
theorem ev_inS {neg : Bool} {ma : M Str} {mb : M (List Str)} (ha : EvM f ta env ma) (hb : ElM f tb env mb) : EvM f (tOp (rIn K neg) ta tb) env (bnd ma fun a => bnd mb fun b => ret (if neg then !decide (a ∈ b) else decide (a ∈ b))) :=
  ev_binR (mr := fun (a : Str) (b : List Str) => ret (if neg then !decide (a ∈ b) else decide (a ∈ b))) (fun x p vs a b n σ Hs H k rx h1 h2 Qd q Q w => by
    rw [repL_str h2] at h1
    rw [rep_str rx]
    refine ⟨p, _, rfl, .inl (SqL.of h1), rfl, flat_strs b, w _ n _ Hs H q k .refl ?_⟩
    rw [inV_strs]
    exact .bl _) ha hb
theorem en_cat {ma mb : M (List α)} (ha : ElM f ta env ma) (hb : ElM f tb env mb) : EnM f (tOp rCat ta tb) env (bnd ma fun a => bnd mb fun b => need (a.length + b.length ≤ LIM) (ret (a ++ b))) :=
  en_binLL (mr := fun (a b : List α) => need (a.length + b.length ≤ LIM) (ret (a ++ b))) (fun p vs p2 us a b n σ Hs H k h1 h2 h3 h4 Qd q Q w => by
    have l1 := h2.len
    have l2 := h4.len
    rw [List.length_map] at l1 l2
    refine ⟨p, p2, vs, us, rfl, rfl, h1, h3, lim_size (by rw [l1, l2]; exact q.1), fun l nl => ?_⟩
    obtain ⟨k2, nw, x2⟩ := k.newU (vs := vs ++ us) nl
    exact w _ n l _ Hs _ q.2 k2 x2 nw (by rw [List.map_append]; exact h2.app h4)) ha hb
theorem RepL.rep {C : CK} {H : Hp} {vs : List V} {ds : List Dt} (h : RepL C H vs ds) : ∀ k : Nat, RepL C H (List.replicate k vs).flatten (List.replicate k ds).flatten
  | 0 => .nil
  | k + 1 => by
    rw [List.replicate_succ, List.replicate_succ, List.flatten_cons, List.flatten_cons]
    exact h.app (RepL.rep h k)
theorem en_rep {ma : M (List α)} {mb : M Int} (ha : ElM f ta env ma) (hb : EvM f tb env mb) : EnM f (tOp rRep ta tb) env (bnd ma fun a => bnd mb fun b => need (b ≤ LIM ∧ -1000000 ≤ b ∧ a.length * b.toNat ≤ LIM) (ret (List.replicate b.toNat a).flatten)) :=
  en_binL (mr := fun (a : List α) (b : Int) => need (b ≤ LIM ∧ -1000000 ≤ b ∧ a.length * b.toNat ≤ LIM) (ret (List.replicate b.toNat a).flatten)) (fun p vs y a b n σ Hs H k h1 h2 ry Qd q Q w => by
    rw [rep_int ry]
    have l1 := h2.len
    rw [List.length_map] at l1
    obtain ⟨⟨q1, q2, q3⟩, q⟩ := q
    unfold LIM at q1
    refine ⟨p, b, vs, rfl, rfl, h1, by omega, by omega, lim_size (by rw [l1]; exact q3), fun l nl => ?_⟩
    obtain ⟨k2, nw, x2⟩ := k.newU (vs := (List.replicate b.toNat vs).flatten) nl
    refine w _ n l _ Hs _ q k2 x2 nw ?_
    rw [List.map_flatten, List.map_replicate]
    exact h2.rep _) ha hb
theorem ev_join {ms : M Str} {ml : M (List Str)} (ha : EvM f ta env ms) (hb : ElM f tb env ml) : EvM f (tM1 (fun x xs H Q => ∃ a p, ∃ ys : List Str, x = .str a ∧ xs = [.ref p] ∧ (SqL K H p (ys.map V.str) ∨ SqT K H p (ys.map V.str)) ∧
      (ys.map (·.length)).sum + ys.length * a.length ≤ 16777216 ∧ Q (.str (Txt.join a ys)) H) ta tb) env (bnd ms fun a => bnd ml fun ys => need ((ys.map (·.length)).sum + ys.length * a.length ≤ 16777216) (ret (Txt.join a ys))) := fun n σ Hs H k Qd q Q w =>
  ha n σ Hs H k _ q _ fun a n1 v Hs1 H1 q1 k1 s1 r1 => ⟨⟨a, rep_str r1⟩, hb n1 σ Hs1 H1 k1 _ q1 _ fun ys n2 p vs Hs2 H2 q2 k2 s2 np h1 h2 => by
    rw [repL_str h2] at h1
    exact ⟨a, p, ys, rep_str r1, rfl, .inl (SqL.of h1), q2.1, w _ n2 _ Hs2 H2 q2.2 k2 (s1.trans s2) (.str _)⟩⟩
/-- x is None -/
theorem ev_isN {m : M (Option α)} {ne : ∀ a : α, enc a ≠ .non} (ha : EvM f ta env m) : EvM f (tOp (fun x y H Q => y = .non ∧ Q (.bl (decide (x = .non))) H) ta (tC .non)) env (bnd m fun o => ret o.isNone) := fun n σ Hs H k Qd q Q w =>
  ha n σ Hs H k _ q _ fun o n1 v Hs1 H1 q1 k1 s1 r1 => ⟨rfl, w _ n1 _ Hs1 H1 q1 k1 s1 (by
    cases o with
    | none =>
      obtain rfl : v = .non := by
        cases r1
        rfl
      simp
      exact .bl true
    | some a =>
      have r1 : Rep f.C Hs1 v (enc a) := r1
      have : v ≠ .non := fun z => by
        subst z
        cases e : enc a <;> rw [e] at r1 <;> first | exact ne a e | cases r1
      rw [decide_eq_false this]
      exact .bl false)⟩
theorem ev_notN {m : M (Option α)} {ne : ∀ a : α, enc a ≠ .non} (ha : EvM f ta env m) : EvM f (tOp (fun x y H Q => y = .non ∧ Q (.bl (!decide (x = .non))) H) ta (tC .non)) env (bnd m fun o => ret o.isSome) := fun n σ Hs H k Qd q Q w =>
  ha n σ Hs H k _ q _ fun o n1 v Hs1 H1 q1 k1 s1 r1 => ⟨rfl, w _ n1 _ Hs1 H1 q1 k1 s1 (by
    cases o with
    | none =>
      obtain rfl : v = .non := by
        cases r1
        rfl
      simp
      exact .bl false
    | some a =>
      have r1 : Rep f.C Hs1 v (enc a) := r1
      have : v ≠ .non := fun z => by
        subst z
        cases e : enc a <;> rw [e] at r1 <;> first | exact ne a e | cases r1
      rw [decide_eq_false this]
      exact .bl true)⟩
end
end WH
namespace WH
open PySem PySem.Spec PyProof.Rows L2
open Enc (enc)
open EncL (encl)
section
variable {f : Fr} {env : DE} {α β γ δ : Type} [Enc α] [Enc β] [Enc γ] [Enc δ] {ta tb tc td te : TE} {tt uu : TT} {tas : TA} {K : PySem.W.Frag}
/-! ### targets -/
/-- js: the slots that it sets -/
def EgM (f : Fr) (g : TG) (js : List Nat) (e' : α → DE → DE) : Prop := ∀ env n σ Hs H v a, OkS f env n σ Hs H → Rep f.C Hs v (enc a) → ∀ Q : Sl → Hp → Prop,
  (∀ σ', (∀ vs : List Nat, (∀ j ∈ js, j ∈ vs) → wipe σ' vs = wipe σ vs) → OkS f (e' a env) n σ' Hs H → Q σ' H) → g v σ H Q
theorem wipe_set {σ : Sl} {j : Nat} {x : Option V} : ∀ {vs : List Nat}, j ∈ vs → wipe (σ.set j x) vs = wipe σ vs
  | v :: vs, h => by
    unfold wipe
    by_cases hj : j ∈ vs
    · rw [wipe_set hj]
    · have e : j = v := by
        rcases List.mem_cons.mp h with z | z
        · exact z
        · exact absurd z hj
      subst e
      have : ∀ (us : List Nat), wipe (σ.set j x) us = (wipe σ us).set j x ∨ wipe (σ.set j x) us = wipe σ us := by
        intro us
        induction us with
        | nil => exact .inl rfl
        | cons u us ih =>
          unfold wipe
          by_cases hu : u = j
          · subst hu
            rcases ih with z | z
            · rw [z, List.set_set]
              exact .inr rfl
            · rw [z]
              exact .inr rfl
          · rcases ih with z | z
            · rw [z, List.set_comm _ _ (fun q => hu q.symm)]
              exact .inl rfl
            · rw [z]
              exact .inr rfl
      rcases this vs with z | z
      · rw [z, List.set_set]
      · rw [z]
theorem wipe_wipe {σ : Sl} (vs : List Nat) : wipe (wipe σ vs) vs = wipe σ vs := by
  have : ∀ us : List Nat, (∀ u ∈ us, u ∈ vs) → wipe (wipe σ vs) us = wipe σ vs := by
    intro us
    induction us with
    | nil => intro _; rfl
    | cons u us ih =>
      intro h
      show (wipe (wipe σ vs) us).set u none = wipe σ vs
      rw [ih fun x hx => h x (List.mem_cons_of_mem _ hx)]
      have hu := h u List.mem_cons_self
      have key : ∀ ws : List Nat, u ∈ ws → (wipe σ ws).set u none = wipe σ ws := by
        intro ws
        induction ws with
        | nil => intro z; simp at z
        | cons w ws ih2 =>
          intro z
          unfold wipe
          by_cases e : w = u
          · subst e
            rw [List.set_set]
          · rw [List.set_comm _ _ e, ih2 (by
              rcases List.mem_cons.mp z with y | y
              · exact absurd y.symm e
              · exact y)]
      exact key vs hu
  exact this vs fun u hu => hu
theorem eg_name {j : Nat} : EgM (α := α) f (gName j) [j] (fun a env => env.set j (some (.sh (enc a)))) := fun env n σ Hs H v a k r Q w =>
  w _ (fun vs h => wipe_set (h j List.mem_cons_self)) (k.setS r)
theorem eg_tup2 {j1 j2 : Nat} : EgM (α := α × β) f (gTup f.C.k 2 (gCons (gName j1) (gCons (gName j2) gNil))) [j1, j2] (fun p env => (env.set j1 (some (.sh (enc p.1)))).set j2 (some (.sh (enc p.2)))) := fun env n σ Hs H v a k r Q w => by
  obtain ⟨p, vs, rfl, h1, h2⟩ := rep_tup r
  cases h2 with
  | cons ha h2 => cases h2 with
    | cons hb h2 =>
      cases h2
      exact ⟨p, _, rfl, sqRd (rdUp h1 k.sub), rfl, _, _, rfl, _, _, rfl, rfl, w _ (fun vs h => by rw [wipe_set (h j2 (by simp)), wipe_set (h j1 (by simp))]) ((k.setS ha).setS hb)⟩
theorem eg_tup3 {j1 j2 j3 : Nat} : EgM (α := T3 α β γ) f (gTup f.C.k 3 (gCons (gName j1) (gCons (gName j2) (gCons (gName j3) gNil)))) [j1, j2, j3] (fun p env => ((env.set j1 (some (.sh (enc p.a)))).set j2 (some (.sh (enc p.b)))).set j3 (some (.sh (enc p.c)))) := fun env n σ Hs H v a k r Q w => by
  obtain ⟨p, vs, rfl, h1, h2⟩ := rep_tup r
  cases h2 with
  | cons ha h2 => cases h2 with
    | cons hb h2 => cases h2 with
      | cons hc h2 =>
        cases h2
        exact ⟨p, _, rfl, sqRd (rdUp h1 k.sub), rfl, _, _, rfl, _, _, rfl, _, _, rfl, rfl, w _ (fun vs h => by rw [wipe_set (h j3 (by simp)), wipe_set (h j2 (by simp)), wipe_set (h j1 (by simp))]) (((k.setS ha).setS hb).setS hc)⟩
theorem eg_tup4 {j1 j2 j3 j4 : Nat} : EgM (α := T4 α β γ δ) f (gTup f.C.k 4 (gCons (gName j1) (gCons (gName j2) (gCons (gName j3) (gCons (gName j4) gNil))))) [j1, j2, j3, j4]
    (fun p env => (((env.set j1 (some (.sh (enc p.a)))).set j2 (some (.sh (enc p.b)))).set j3 (some (.sh (enc p.c)))).set j4 (some (.sh (enc p.d)))) := fun env n σ Hs H v a k r Q w => by
  obtain ⟨p, vs, rfl, h1, h2⟩ := rep_tup r
  cases h2 with
  | cons ha h2 => cases h2 with
    | cons hb h2 => cases h2 with
      | cons hc h2 => cases h2 with
        | cons hd h2 =>
          cases h2
          exact ⟨p, _, rfl, sqRd (rdUp h1 k.sub), rfl, _, _, rfl, _, _, rfl, _, _, rfl, _, _, rfl, rfl, w _ (fun vs h => by rw [wipe_set (h j4 (by simp)), wipe_set (h j3 (by simp)), wipe_set (h j2 (by simp)), wipe_set (h j1 (by simp))]) ((((k.setS ha).setS hb).setS hc).setS hd)⟩
/-! ### what is gone over -/
structure ItOk (f : Fr) (J : It) (xs : List α) (Hs0 : Hp) : Prop where
  go : ∀ i Hs H, Same Hs0 Hs → Same Hs H → i < xs.length → J.go i H
  stop : ∀ Hs H, Same Hs0 Hs → Same Hs H → J.stop xs.length H
  yld : ∀ i a env n σ Hs H x H', xs[i]? = some a → OkS f env n σ Hs H → Same Hs0 Hs → J.yld i H x H' → ∃ Hs', OkS f env n σ Hs' H' ∧ Ext f Hs H Hs' H' ∧ Rep f.C Hs' x (enc a)
def EsM (f : Fr) (ti : TI) (env : DE) (m : M (List α)) : Prop := ∀ n σ Hs H, OkS f env n σ Hs H → ∀ Qd, m n Qd → ∀ R : It → Hp → Prop,
  (∀ xs n' Hs' H' J, Qd xs n' → OkS f env n' σ Hs' H' → Ext f Hs H Hs' H' → ItOk f J xs Hs' → R J H') → ti σ H R
theorem it_plain {J : It} {xs : List α} {Hs0 : Hp} {vs : List V} {G : Hp → Prop} (w : Walk J vs.length G (YAt vs)) (hG : ∀ Hs H, Same Hs0 Hs → Same Hs H → G H) (r : RepL f.C Hs0 vs (xs.map enc)) : ItOk f J xs Hs0 := by
  have hl := r.len
  rw [List.length_map] at hl
  refine ⟨fun i Hs H s1 s2 hi => w.goes i H (by omega) (hG Hs H s1 s2), fun Hs H s1 s2 => by rw [← hl]; exact w.stops H (hG Hs H s1 s2), fun i a env n σ Hs H x H' hx k s y => ?_⟩
  have hi := (List.getElem?_eq_some_iff.mp hx).1
  obtain ⟨e1, e2⟩ := w.yields i H x H' (by omega) (hG Hs H s k.sub) y
  subst e1
  obtain ⟨v, e3, e4⟩ := r.get i (enc a) (by rw [List.getElem?_map, hx]; rfl)
  rw [e2] at e3
  obtain rfl := Option.some.inj e3
  exact ⟨Hs, k, .refl, e4.same s⟩
theorem es_list {m : M (List α)} (h : EvM f te env m) : EsM f (iList K te) env m := fun n σ Hs H k Qd q R w => h n σ Hs H k _ q _ fun xs n1 v Hs1 H1 q1 k1 s1 r1 => by
  obtain ⟨a, vs, rfl, h1, h2⟩ := rep_lst r1
  exact ⟨a, rfl, ⟨vs, SqL.of (k1.sub _ _ h1)⟩, w xs n1 Hs1 H1 _ q1 k1 s1 (it_plain (walk_list (K := K) (a := a) (xs := vs)) (fun Hs2 H2 z1 z2 => SqL.of (z2 _ _ (z1 _ _ h1))) h2)⟩
/-- a tuple display, all of one kind -/
theorem es_tup {m : M (List α)} {k : Nat} (h : EiM f k tas env m) (hk : k ≤ 1000) : EsM f (iTup K (tTup tas)) env m := fun n σ Hs H ok Qd q R w =>
  h n σ Hs H ok _ q _ fun xs n1 vs Hs1 H1 q1 k1 s1 r1 l1 => ⟨lim_size (by rw [r1.len, List.length_map]; unfold LIM; omega), fun p np => by
    have hs := k1.hs np
    refine ⟨p, rfl, ⟨vs, SqT.of upd_same⟩, w xs n1 (upd Hs1 p (.tup vs)) _ _ q1 (k1.allocS np) (s1.trans (k1.extS np)) (it_plain (walk_tup (K := K) (a := p) (xs := vs)) (fun Hs2 H2 z1 z2 => SqT.of (z2 _ _ (z1 _ _ upd_same))) (r1.same (same_upd hs)))⟩⟩
/-- the numbers from lo on, k of them -/
def intsUp (lo : Int) (k : Nat) : List Int := (List.range k).map fun i => lo + (i : Nat)
theorem intsUp_len {lo : Int} {k : Nat} : (intsUp lo k).length = k := by simp [intsUp]
theorem it_range {lo : Int} {k : Nat} {Hs0 : Hp} : ItOk f (Itr lo k) (intsUp lo k) Hs0 := by
  have w := walk_range (lo := lo) (n := k)
  refine ⟨fun i Hs H s1 s2 hi => w.goes i H (by rwa [intsUp_len] at hi) trivial, fun Hs H s1 s2 => by rw [intsUp_len]; exact w.stops H trivial, fun i a env n σ Hs H x H' hx k s y => ?_⟩
  have hi := (List.getElem?_eq_some_iff.mp hx).1
  rw [intsUp_len] at hi
  obtain ⟨e1, e2⟩ := w.yields i H x H' hi trivial y
  subst e1
  subst e2
  have : a = lo + (i : Nat) := by
    unfold intsUp at hx
    rw [List.getElem?_map, List.getElem?_range hi] at hx
    exact (Option.some.inj hx).symm
  subst this
  exact ⟨Hs, k, .refl, .int _⟩
theorem es_range1 {m : M Int} (h : EvM f te env m) : EsM f (iRng1 (tCons te tNil)) env (bnd m fun j => need (-1000000 ≤ j ∧ j ≤ 1000000) (ret (intsUp 0 j.toNat))) := fun n σ Hs H k Qd q R w =>
  h n σ Hs H k _ q _ fun j n1 v Hs1 H1 q1 k1 s1 r1 => by
    rw [rep_int r1]
    obtain ⟨⟨b1, b2⟩, q1⟩ := q1
    exact ⟨j, rfl, by omega, by omega, w _ n1 Hs1 H1 _ q1 k1 s1 it_range⟩
theorem es_range2 {m m2 : M Int} (h : EvM f ta env m) (h2 : EvM f tb env m2) : EsM f (iRng2 (tCons ta (tCons tb tNil))) env (bnd m fun i => bnd m2 fun j => need (-1000000 ≤ i ∧ i ≤ 1000000 ∧ -1000000 ≤ j ∧ j ≤ 1000000) (ret (intsUp i (j - i).toNat))) := fun n σ Hs H k Qd q R w =>
  h n σ Hs H k _ q _ fun i n1 v Hs1 H1 q1 k1 s1 r1 => h2 n1 σ Hs1 H1 k1 _ q1 _ fun j n2 u Hs2 H2 q2 k2 s2 r2 => by
    rw [rep_int r1, rep_int r2]
    obtain ⟨b, q2⟩ := q2
    exact ⟨i, j, rfl, ⟨by omega, by omega, by omega, by omega⟩, w _ n2 Hs2 H2 _ q2 k2 (s1.trans s2) it_range⟩
/-- the signs of a text -/
def signs (z : Str) : List Str := z.cps.toList.map fun c => ⟨#[c]⟩
theorem es_str {m : M Str} (h : EvM f te env m) : EsM f (iStr te) env (bnd m fun z => ret (signs z)) := fun n σ Hs H k Qd q R w =>
  h n σ Hs H k _ q _ fun z n1 v Hs1 H1 q1 k1 s1 r1 => by
    rw [rep_str r1]
    have wk := walk_str (z := z)
    have hl : (signs z).length = z.cps.size := by simp [signs]
    refine ⟨z, rfl, w _ n1 Hs1 H1 _ q1 k1 s1 ⟨fun i Hs H s1 s2 hi => wk.goes i H (by omega) trivial, fun Hs H s1 s2 => by rw [hl]; exact wk.stops H trivial, fun i a env n σ Hs H x H' hx k s y => ?_⟩⟩
    have hi := (List.getElem?_eq_some_iff.mp hx).1
    obtain ⟨e1, c, e2, e3⟩ := wk.yields i H x H' (by omega) trivial y
    subst e1
    subst e3
    unfold signs at hx
    rw [List.getElem?_map, Array.getElem?_toList, e2] at hx
    obtain rfl := Option.some.inj hx
    exact ⟨Hs, k, .refl, .str _⟩
/-- enumerate(list) -/
def numbered (xs : List α) : List (Int × α) := xs.zipIdx.map fun p => ((p.2 : Int), p.1)
theorem numbered_get {xs : List α} {i : Nat} {p : Int × α} (h : (numbered xs)[i]? = some p) : p.1 = i ∧ xs[i]? = some p.2 := by
  unfold numbered at h
  rw [List.getElem?_map, List.getElem?_zipIdx] at h
  cases e : xs[i]? with
  | none =>
    rw [e] at h
    cases h
  | some a =>
    rw [e] at h
    have := Option.some.inj h
    subst this
    exact ⟨by simp, rfl⟩
theorem es_enum {m : M (List α)} (h : EvM f te env m) : EsM f (iEnum K (tCons te tNil)) env (bnd m fun xs => ret (numbered xs)) := fun n σ Hs H k Qd q R w =>
  h n σ Hs H k _ q _ fun xs n1 v Hs1 H1 q1 k1 s1 r1 => by
    obtain ⟨a, vs, rfl, h1, h2⟩ := rep_lst r1
    have hln := h2.len
    rw [List.length_map] at hln
    have wk := walk_enum (K := K) (a := a) (xs := vs)
    have hl : (numbered xs).length = vs.length := by simp [numbered, hln]
    have hg : ∀ Hs H, Same Hs1 Hs → Same Hs H → SqL K H a vs := fun Hs H s1 s2 => SqL.of (s2 _ _ (s1 _ _ h1))
    refine ⟨a, vs, rfl, SqL.of (k1.sub _ _ h1), w _ n1 Hs1 H1 _ q1 k1 s1 ⟨fun i Hs H s1 s2 hi => wk.goes i H (by omega) (hg Hs H s1 s2), fun Hs H s1 s2 => by rw [hl]; exact wk.stops H (hg Hs H s1 s2), fun i p env n σ Hs H x H' hx k s y => ?_⟩⟩
    have hi := (List.getElem?_eq_some_iff.mp hx).1
    obtain ⟨T, u1, u2, e1, e2, e3, e4, e5⟩ := wk.yields i H x H' (by omega) (hg Hs H s k.sub) y
    subst e1
    subst e3
    obtain ⟨p1, p2⟩ := numbered_get hx
    obtain ⟨u, e6, e7⟩ := h2.get i (enc p.2) (by rw [List.getElem?_map, p2]; rfl)
    dsimp only at e4 e5
    rw [e5] at e6
    obtain rfl := Option.some.inj e6
    obtain rfl := Option.some.inj e4
    have hs := k.hs e2
    refine ⟨_, k.allocS (o := .tup [.int (i : Nat), u2]) e2, k.extS e2, .tup (tupO upd_same) (.cons ?_ (.cons (e7.same (s.trans (same_upd hs))) .nil))⟩
    rw [p1]
    exact .int _
/-- zip of two lists -/
theorem es_zip {m1 : M (List α)} {m2 : M (List β)} (h : EvM f ta env m1) (h' : EvM f tb env m2) : EsM f (iZip K (tCons ta (tCons tb tNil))) env (bnd m1 fun xs => bnd m2 fun ys => ret (xs.zip ys)) := fun n σ Hs H k Qd q R w =>
  h n σ Hs H k _ q _ fun xs n1 v Hs1 H1 q1 k1 s1 r1 => h' n1 σ Hs1 H1 k1 _ q1 _ fun ys n2 u Hs2 H2 q2 k2 s2 r2 => by
    obtain ⟨a, vs, rfl, h1, h2⟩ := rep_lst r1
    obtain ⟨b, us, rfl, h3, h4⟩ := rep_lst r2
    have l1 := h2.len
    have l2 := h4.len
    rw [List.length_map] at l1 l2
    have wk := walk_zip (K := K) (a := a) (b := b) (xs := vs) (ys := us) rfl
    have hl : (xs.zip ys).length = min vs.length us.length := by rw [List.length_zip, l1, l2]
    have hg : ∀ Hs H, Same Hs2 Hs → Same Hs H → SqL K H a vs ∧ SqL K H b us := fun Hs H s1 s3 => ⟨SqL.of (s3 _ _ (s1 _ _ (s2.s _ _ h1))), SqL.of (s3 _ _ (s1 _ _ h3))⟩
    refine ⟨a, b, vs, us, rfl, SqL.of (k2.sub _ _ (s2.s _ _ h1)), SqL.of (k2.sub _ _ h3), w _ n2 Hs2 H2 _ q2 k2 (s1.trans s2) ⟨fun i Hs H s1 s2 hi => wk.goes i H (by omega) (hg Hs H s1 s2), fun Hs H s1 s2 => by rw [hl]; exact wk.stops H (hg Hs H s1 s2), fun i p env n σ Hs H x H' hx k s y => ?_⟩⟩
    have hi := (List.getElem?_eq_some_iff.mp hx).1
    obtain ⟨T, u1, u2, e1, e2, e3, e4, e5⟩ := wk.yields i H x H' (by omega) (hg Hs H s k.sub) y
    subst e1
    subst e3
    obtain ⟨p1, p2⟩ := List.getElem?_zip_eq_some.mp hx
    obtain ⟨z1, e6, e7⟩ := h2.get i (enc p.1) (by rw [List.getElem?_map, p1]; rfl)
    obtain ⟨z2, e8, e9⟩ := h4.get i (enc p.2) (by rw [List.getElem?_map, p2]; rfl)
    dsimp only at e4 e5
    rw [e4] at e6
    rw [e5] at e8
    obtain rfl := Option.some.inj e6
    obtain rfl := Option.some.inj e8
    have hs := k.hs e2
    exact ⟨_, k.allocS (o := .tup [u1, u2]) e2, k.extS e2, .tup (tupO upd_same) (.cons (e7.same ((s2.s.trans s).trans (same_upd hs))) (.cons (e9.same (s.trans (same_upd hs))) .nil))⟩
end
end WH
namespace WH
open PySem PySem.Spec PyProof.Rows L2
open Enc (enc)
open EncL (encl)
/-! ### comprehensions -/
/-- g for each, those that it gives -/
def cmpW {α β : Type} : List α → (α → M (Option β)) → M (List β)
  | [], _ => ret []
  | x :: r, g => bnd (g x) fun o => bnd (cmpW r g) fun ys => ret (o.toList ++ ys)
theorem OkS.writeU {f : Fr} {env : DE} {n : Int} {σ : Sl} {Hs H : Hp} {a : Addr} {o : HO} (k : OkS f env n σ Hs H) (hs : Hs a = none) (h0 : f.H0 a = none) (nu : Nu env σ a) : OkS f env n σ Hs (upd H a o) := by
  refine ⟨k.len, fun b x e => ?_, k.mono, fun b x nb e => ?_, k.frsh, fun j e x e1 e2 => ?_, k.apt, fun q hq => ?_, k.nt⟩
  · rw [upd_ne (ne_of_none e hs)]
    exact k.sub _ _ e
  · rw [upd_ne (ne_of_none e h0)]
    exact k.keep _ _ nb e
  · have q := k.sl j e x e1 e2
    match e, q, e1 with
    | none, _, _ => trivial
    | some (.sh d), q, _ => exact q
    | some (.ow ds), q, e1 =>
      obtain ⟨b, us, h1, h2, h3, h4, h5⟩ := q
      have z : b ≠ a := fun z => (nu j _ e1 rfl).1 (by rw [e2, h1, z])
      exact ⟨b, us, h1, h2, h3, by rw [upd_ne z]; exact h4, h5⟩
    | some .pl, q, _ => exact q
    | some (.gh _), q, _ => exact q
    | some (.xn _ _ _), q, _ => exact q
    | some (.ob o'), q, e1 =>
      obtain ⟨b, h1, h2, h3, h4⟩ := q
      have z : b ≠ a := fun z => (nu j _ e1 rfl).1 (by rw [e2, h1, z])
      exact ⟨b, h1, h2, h3, by rw [upd_ne z]; exact h4⟩
    | some (.om mq ds2), q, e1 =>
      obtain ⟨b, us, h1, h2, h3, h4, h5⟩ := q
      have z : b ≠ a := fun z => (nu j _ e1 rfl).1 (by rw [e2, h1, z])
      exact ⟨b, us, h1, h2, h3, by rw [upd_ne z]; exact h4, h5⟩
    | some (.nst r o' ks ds2), q, e1 =>
      obtain ⟨h1, h2, h3, h4, h5, h6, h7⟩ := q
      have z : r ≠ a := fun z => (nu j _ e1 rfl).1 (by rw [e2, h1, z])
      exact ⟨h1, h2, h3, by rw [upd_ne z]; exact h4, h5, h6, h7.up (Same.refl _) fun c hc o2 _ n1 n2 => ⟨n1, by rw [upd_ne (fun z => (nu j _ e1 rfl).2 (by rw [← z]; exact hc))]; exact n2⟩⟩
  · obtain ⟨⟨x, y, z, q1, q2⟩, q3, q4⟩ := k.pool q hq
    have ne : q ≠ a := fun e => q4 (by rw [e]; exact h0)
    exact ⟨⟨x, y, z, by rw [upd_ne ne]; exact q1, q2⟩, q3, q4⟩
/-- from a comprehension's slots back to the def's -/
theorem OkS.back {f : Fr} {env : DE} {n n' : Int} {σ : Sl} {Hs H Hs' H' : Hp} {vs : List Nat} (k : OkS f env n σ Hs H) (k' : OkS f (wipeE env vs) n' (L2.wipe σ vs) Hs' H') (s : Same Hs Hs') (no : ∀ j ∈ vs, ∀ e, env[j]? = some e → isOw e = false) : OkS f env n' σ Hs' H' := by
  refine ⟨k.len, k'.sub, k'.mono, k'.keep, k'.frsh, fun i e v e1 e2 => ?_, k.apt, k'.pool, k.nt⟩
  have q := k.sl i e v e1 e2
  match e, q, e1 with
  | none, _, _ => trivial
  | some (.sh d), q, _ =>
    obtain ⟨u, h1, h2⟩ := q
    exact ⟨u, h1, h2.same s⟩
  | some .pl, q, _ => exact q
  | some (.gh G), q, e1 =>
    obtain ⟨u, h1, h2⟩ := q
    exact ⟨u, h1, k.nt i _ e1 _ _ _ s h2⟩
  | some (.xn a d w), q, _ =>
    obtain ⟨h1, u, h2, h3⟩ := q
    exact ⟨h1, u, s _ _ h2, h3.same s⟩
  | some (.ow ds), q, e1 =>
    have hi : i ∉ vs := fun z => by
      have := no i z _ e1
      cases this
    have w1 : ∀ us : List Nat, i ∉ us → (wipeE env us)[i]? = env[i]? := by
      intro us
      induction us with
      | nil => intro _; rfl
      | cons u us ih =>
        intro h
        unfold wipeE
        rw [List.getElem?_set_ne (fun z => h (by rw [z]; exact List.mem_cons_self))]
        exact ih fun z => h (List.mem_cons_of_mem _ z)
    have w2 : ∀ us : List Nat, i ∉ us → (L2.wipe σ us)[i]? = σ[i]? := by
      intro us
      induction us with
      | nil => intro _; rfl
      | cons u us ih =>
        intro h
        unfold L2.wipe
        rw [List.getElem?_set_ne (fun z => h (by rw [z]; exact List.mem_cons_self))]
        exact ih fun z => h (List.mem_cons_of_mem _ z)
    exact k'.sl i _ v (by rw [w1 vs hi]; exact e1) (by rw [w2 vs hi]; exact e2)
  | some (.ob o'), q, e1 =>
    have hi : i ∉ vs := fun z => by
      have := no i z _ e1
      cases this
    have w1 : ∀ us : List Nat, i ∉ us → (wipeE env us)[i]? = env[i]? := by
      intro us
      induction us with
      | nil => intro _; rfl
      | cons u us ih =>
        intro h
        unfold wipeE
        rw [List.getElem?_set_ne (fun z => h (by rw [z]; exact List.mem_cons_self))]
        exact ih fun z => h (List.mem_cons_of_mem _ z)
    have w2 : ∀ us : List Nat, i ∉ us → (L2.wipe σ us)[i]? = σ[i]? := by
      intro us
      induction us with
      | nil => intro _; rfl
      | cons u us ih =>
        intro h
        unfold L2.wipe
        rw [List.getElem?_set_ne (fun z => h (by rw [z]; exact List.mem_cons_self))]
        exact ih fun z => h (List.mem_cons_of_mem _ z)
    exact k'.sl i _ v (by rw [w1 vs hi]; exact e1) (by rw [w2 vs hi]; exact e2)
  | some (.om mq ds2), q, e1 =>
    have hi : i ∉ vs := fun z => by
      have := no i z _ e1
      cases this
    have w1 : ∀ us : List Nat, i ∉ us → (wipeE env us)[i]? = env[i]? := by
      intro us
      induction us with
      | nil => intro _; rfl
      | cons u us ih =>
        intro h
        unfold wipeE
        rw [List.getElem?_set_ne (fun z => h (by rw [z]; exact List.mem_cons_self))]
        exact ih fun z => h (List.mem_cons_of_mem _ z)
    have w2 : ∀ us : List Nat, i ∉ us → (L2.wipe σ us)[i]? = σ[i]? := by
      intro us
      induction us with
      | nil => intro _; rfl
      | cons u us ih =>
        intro h
        unfold L2.wipe
        rw [List.getElem?_set_ne (fun z => h (by rw [z]; exact List.mem_cons_self))]
        exact ih fun z => h (List.mem_cons_of_mem _ z)
    exact k'.sl i _ v (by rw [w1 vs hi]; exact e1) (by rw [w2 vs hi]; exact e2)
  | some (.nst r o' ks ds2), q, e1 =>
    have hi : i ∉ vs := fun z => by
      have := no i z _ e1
      cases this
    have w1 : ∀ us : List Nat, i ∉ us → (wipeE env us)[i]? = env[i]? := by
      intro us
      induction us with
      | nil => intro _; rfl
      | cons u us ih =>
        intro h
        unfold wipeE
        rw [List.getElem?_set_ne (fun z => h (by rw [z]; exact List.mem_cons_self))]
        exact ih fun z => h (List.mem_cons_of_mem _ z)
    have w2 : ∀ us : List Nat, i ∉ us → (L2.wipe σ us)[i]? = σ[i]? := by
      intro us
      induction us with
      | nil => intro _; rfl
      | cons u us ih =>
        intro h
        unfold L2.wipe
        rw [List.getElem?_set_ne (fun z => h (by rw [z]; exact List.mem_cons_self))]
        exact ih fun z => h (List.mem_cons_of_mem _ z)
    exact k'.sl i _ v (by rw [w1 vs hi]; exact e1) (by rw [w2 vs hi]; exact e2)
section
variable {f : Fr} {env : DE} {α β γ δ : Type} [Enc α] [Enc β] [Enc γ] [Enc δ] {ta tb tc td te : TE} {tt uu : TT} {tas : TA} {ti : TI} {g : TG} {K : PySem.W.Frag}
/-- what a turn gives -/
abbrev turnM (mt : M Bool) (me : M β) : M (Option β) := bnd mt fun b => fun n Q => (b = true → (bnd me fun y => ret (some y)) n Q) ∧ (b = false → Q none n)
theorem en_comp {js vs : List Nat} {e' : α → DE → DE} {ms : M (List α)} {mt : α → M Bool} {me : α → M β} (hs : EsM f ti env ms) (hg : EgM f g js e') (hj : ∀ j ∈ js, j ∈ vs) (no : ∀ j ∈ vs, ∀ e, env[j]? = some e → isOw e = false)
    (ht : ∀ a, EtM f tt (e' a (wipeE env vs)) (mt a)) (he : ∀ a, EvM f te (e' a (wipeE env vs)) (me a)) (hwe : ∀ a, wipeE (e' a (wipeE env vs)) vs = wipeE env vs) :
    EnM f (tLc ti g tt te vs) env (bnd ms fun xs => need (xs.length ≤ LIM) (cmpW xs fun x => turnM (mt x) (me x))) := fun n σ Hs H k Qd q Q w =>
  hs n σ Hs H k _ q _ fun xs n1 Hs1 H1 J q1 k1 s1 it => fun D hD => by
    obtain ⟨k2, nw, x2⟩ := k1.newU (vs := []) hD
    have kw := k2.wipe vs
    have nuw : Nu (wipeE env vs) (wipe σ vs) D := fun j e h1 h2 => by
      rcases wipeE_get (σ := σ) vs j e h1 with rfl | ⟨h3, h4⟩
      · cases h2
      · rw [h4]
        exact nw.nu j e h3 h2
    have nP : some D ≠ f.P := fun z => (k1.pool D z.symm).2.2 nw.h0
    let I : Nat → Hp → Prop := fun i H' => ∃ n' Hs' acc ys, OkS f (wipeE env vs) n' (wipe σ vs) Hs' H' ∧ Ext f Hs1 (upd H1 D (.lst [])) Hs' (upd H' D (.lst [])) ∧ H' D = some (.lst acc) ∧ Hs' D = none ∧ RepL f.C Hs' acc (ys.map enc) ∧ acc.length ≤ i ∧
      cmpW (xs.drop i) (fun x => turnM (mt x) (me x)) n' (fun r n'' => Qd (ys ++ r) n'')
    have uu2 : upd (upd H1 D (.lst [])) D (.lst []) = upd H1 D (.lst []) := upd_upd
    refine ⟨fun i m H' => m = xs.length - i ∧ i ≤ xs.length ∧ I i H', ⟨xs.length, by simp, Nat.zero_le _, n1, Hs1, [], [], kw, by rw [uu2]; exact .refl, upd_same, nw.hs, .nil, Nat.zero_le _, by simpa using q1.2⟩, ?_⟩
    rintro i m H2 ⟨rfl, hi, n2, Hs2, acc, ys, kk, s2, hD2, hsD2, r2, ly, q2⟩
    by_cases hlt : i < xs.length
    · refine .inr ⟨it.go i Hs2 H2 s2.s kk.sub hlt, I (i + 1), fun H' p => ⟨xs.length - (i + 1), by omega, rfl, hlt, p⟩, ?_⟩
      intro x H3 hy
      have e : xs[i]? = some xs[i] := List.getElem?_eq_getElem hlt
      have ed : xs.drop i = xs[i] :: xs.drop (i + 1) := List.drop_eq_getElem_cons hlt
      generalize xs[i] = a at e ed
      rw [ed] at q2
      obtain ⟨Hs3, k3, s3, r3⟩ := it.yld i a _ _ _ _ _ x H3 e kk s2.s hy
      refine hg _ _ _ _ _ x a k3 r3 _ fun σ' hσ k4 => ⟨by rw [hσ vs hj, wipe_wipe], ?_⟩
      have hwσ : wipe σ' vs = wipe σ vs := by rw [hσ vs hj, wipe_wipe]
      have q2' : (mt a) n2 _ := q2
      -- how the hidden list is kept
      have keepD : ∀ {Hs' H' : Hp}, Ext f Hs2 H2 Hs' H' → H' D = some (.lst acc) ∧ Hs' D = none := fun z => ⟨z.k _ _ nP hD2, z.u _ _ (.inl nt_lst) hD2 hsD2⟩
      have exD : ∀ {Hs' H' : Hp}, Ext f Hs2 H2 Hs' H' → Ext f Hs1 (upd H1 D (.lst [])) Hs' (upd H' D (.lst [])) := fun {Hs' H'} z => by
        refine s2.trans ⟨z.s, fun b o nb eb => ?_, fun b eb => ?_, fun b o nt eb nb => ?_⟩
        · by_cases y : b = D
          · subst y
            rw [upd_same] at eb ⊢
            exact eb
          · rw [upd_ne y] at eb ⊢
            exact z.k b o nb eb
        · by_cases y : b = D
          · subst y
            rw [upd_same] at eb
            cases eb
          · rw [upd_ne y] at eb ⊢
            exact z.t b eb
        · by_cases y : b = D
          · subst y
            exact z.u b _ (.inl nt_lst) hD2 hsD2
          · rw [upd_ne y] at eb
            exact z.u b o nt eb nb
      refine ht a n2 σ' Hs3 H3 k4 _ q2' _ fun b n5 Hs5 H5 q5 k5 s5 => ?_
      cases b with
      | false =>
        have q6 := q5.2 rfl
        simp only [Bool.false_eq_true, if_false]
        have z5 := s3.trans s5
        obtain ⟨hD5, hsD5⟩ := keepD z5
        have k6 := k5.wipe vs
        rw [hwe, hwσ] at k6
        exact ⟨n5, Hs5, acc, ys, k6, exD z5, hD5, hsD5, r2.same z5.s, by omega, by simpa using q6⟩
      | true =>
        have q6 := q5.1 rfl
        simp only [if_true]
        refine he a n5 σ' Hs5 H5 k5 _ q6 _ fun y n7 v7 Hs7 H7 q7 k7 s7 r7 => ?_
        have z7 := (s3.trans s5).trans s7
        obtain ⟨hD7, hsD7⟩ := keepD z7
        have k8 := k7.wipe vs
        rw [hwe, hwσ] at k8
        have hL := q1.1
        refine ⟨acc, hD7, lim_lt (by omega), n7, Hs7, acc ++ [v7], ys ++ [y], k8.writeU hsD7 nw.h0 nuw, ?_, upd_same, hsD7, ?_, ?_, ?_⟩
        · rw [upd_upd]
          exact exD z7
        · rw [List.map_append]
          exact (r2.same z7.s).app (.cons r7 .nil)
        · rw [List.length_append]
          simp
          omega
        · simp only [List.append_assoc]
          exact q7
    · have e : i = xs.length := by omega
      subst e
      refine .inl ⟨it.stop Hs2 H2 s2.s kk.sub, ?_⟩
      rw [List.drop_length] at q2
      have q2 : Qd (ys ++ []) n2 := q2
      rw [List.append_nil] at q2
      have z : Ext f Hs1 H1 Hs2 H2 := ⟨s2.s, fun b o nb eb => by
        have y : b ≠ D := ne_of_none eb hD
        have := s2.k b o nb (by rw [upd_ne y]; exact eb)
        rwa [upd_ne y] at this, fun b eb => by
        have y : b ≠ D := fun y => by rw [y, hD2] at eb; cases eb
        have := s2.t b (by rw [upd_ne y]; exact eb)
        rwa [upd_ne y] at this, fun b o nt eb nb => by
        have y : b ≠ D := ne_of_none eb hD
        exact s2.u b o nt (by rw [upd_ne y]; exact eb) nb⟩
      exact w ys n2 D acc Hs2 H2 q2 (k1.back kk z.s no) (s1.trans z) ⟨hD2, hsD2, nw.h0, nw.nu, s1.t D nw.n⟩ r2
end
end WH
namespace WH
open PySem PySem.Spec PyProof.Rows L2
open Enc (enc)
open EncL (encl)
/-! ### what a def promises, by data -/
section
variable {τ ρ : Type} [EncL τ] [Enc ρ]
/-- draws nothing, changes nothing -/
def spP (C : CK) (m : τ → M ρ) : Sp := fun vs H Q _ => ∃ (x : τ) (Hs : Hp) (Qd : ρ → Prop), RepL C Hs vs (encl x) ∧ Same Hs H ∧ m x 0 (fun r _ => Qd r) ∧
  ∀ r v Hs' H', Qd r → Same H H' → Same Hs Hs' → Same Hs' H' → (∀ a o, Ntp o → H a = some o → Hs a = none → Hs' a = none) → Rep C Hs' v (enc r) → Q v H'
/-- gives a new list -/
def spPN (C : CK) (m : τ → M (List ρ)) : Sp := fun vs H Q _ => ∃ (x : τ) (Hs : Hp) (Qd : List ρ → Prop), RepL C Hs vs (encl x) ∧ Same Hs H ∧ m x 0 (fun r _ => Qd r) ∧
  ∀ r a us Hs' H', Qd r → Same H H' → Same Hs Hs' → Same Hs' H' → (∀ a o, Ntp o → H a = some o → Hs a = none → Hs' a = none) → H a = none → Hs' a = none → H' a = some (.lst us) → RepL C Hs' us (r.map enc) → Q (.ref a) H'
/-- draws from the pool -/
def spL (C : CK) (m : τ → M ρ) : Sp := fun vs H Q _ => ∃ (p : Addr) (us : List V) (x : τ) (Hs : Hp) (n : Int) (Qd : ρ → Int → Prop), vs = .ref p :: us ∧ RepL C Hs us (encl x) ∧ Same Hs H ∧ PoolAt H p n ∧ Hs p = none ∧ m x n Qd ∧
  ∀ r n' v Hs' H', Qd r n' → SameBut p H H' → Same Hs Hs' → Same Hs' H' → (∀ a o, Ntp o → H a = some o → Hs a = none → Hs' a = none) → PoolAt H' p n' → Rep C Hs' v (enc r) → Q v H'
def spLN (C : CK) (m : τ → M (List ρ)) : Sp := fun vs H Q _ => ∃ (p : Addr) (us : List V) (x : τ) (Hs : Hp) (n : Int) (Qd : List ρ → Int → Prop), vs = .ref p :: us ∧ RepL C Hs us (encl x) ∧ Same Hs H ∧ PoolAt H p n ∧ Hs p = none ∧ m x n Qd ∧
  ∀ r n' a ws Hs' H', Qd r n' → SameBut p H H' → Same Hs Hs' → Same Hs' H' → (∀ a o, Ntp o → H a = some o → Hs a = none → Hs' a = none) → PoolAt H' p n' → H a = none → Hs' a = none → H' a = some (.lst ws) → RepL C Hs' ws (r.map enc) → Q (.ref a) H'
end
section
variable {f : Fr} {env env' : DE} {α β γ δ ρ τ : Type} [Enc α] [Enc β] [Enc γ] [Enc δ] [Enc ρ] [EncL τ] {ta tb tc td te : TE} {tt uu : TT} {tas : TA} {ti : TI} {g : TG} {K : PySem.W.Frag} {E : XK}
theorem OkS.ext {n n' : Int} {σ : Sl} {Hs H Hs' H' : Hp} (k : OkS f env n σ Hs H) (x : Ext f Hs H Hs' H') (sub : Same Hs' H') (hp : ∀ p, f.P = some p → PoolAt H' p n') : OkS f env n' σ Hs' H' := by
  refine ⟨k.len, sub, k.mono.trans x.s, fun a o nP e => x.k a o nP (k.keep a o nP e), fun a o nt e z => ?_, fun i e v e1 e2 => ?_, k.apt, fun p e => ⟨hp p e, ?_, (k.pool p e).2.2⟩, k.nt⟩
  · have h1 := k.frsh a o nt e z
    by_cases hP : some a = f.P
    · obtain ⟨⟨x1, x2, x3, q1, _⟩, q2, _⟩ := k.pool a hP.symm
      exact x.u a _ (.inl nt_lst) q1 h1
    · exact x.u a o (.inl nt) (k.keep a o hP e) h1
  · have q := k.sl i e v e1 e2
    have nt := k.nt i e e1
    match e, q, nt with
    | none, _, _ => trivial
    | some (.sh d), q, _ =>
      obtain ⟨u, h1, h2⟩ := q
      exact ⟨u, h1, h2.same x.s⟩
    | some .pl, q, _ => exact q
    | some (.gh G), q, nt =>
      obtain ⟨u, h1, h2⟩ := q
      exact ⟨u, h1, nt _ _ _ x.s h2⟩
    | some (.xn a d w), q, _ =>
      obtain ⟨h1, u, h2, h3⟩ := q
      exact ⟨h1, u, x.s _ _ h2, h3.same x.s⟩
    | some (.ow ds), q, _ =>
      obtain ⟨b, us, z1, z2, z3, z4, z5⟩ := q
      exact ⟨b, us, z1, x.u b _ (.inl nt_lst) z4 z2, z3, x.k b _ (k.notP (.inl z3)) z4, z5.same x.s⟩
    | some (.ob o'), q, nt =>
      obtain ⟨b, z1, z2, z3, z4⟩ := q
      exact ⟨b, z1, x.u b _ (.inl (nt b)) z4 z2, z3, x.k b _ (k.notP (.inl z3)) z4⟩
    | some (.om mq ds), q, nt =>
      obtain ⟨b, us, z1, z2, z3, z4, z5⟩ := q
      exact ⟨b, us, z1, x.u b _ (.inl (nt _ _ _ us)) z4 z2, z3, x.k b _ (k.notP (.inl z3)) z4, z5.same x.s⟩
    | some (.nst r o' ks ds), q, nt =>
      obtain ⟨z1, z2, z3, z4, z5, z6, z7⟩ := q
      exact ⟨z1, x.u r _ (.inl nt) z4 z2, z3, x.k r _ (k.notP (.inl z3)) z4, z5, z6, z7.up x.s fun c hc o nt n1 n2 => ⟨x.u c _ (.inl nt) n2 n1, x.k c _ (k.notP (.inl (z7.at hc).2.1)) n2⟩⟩
  · obtain ⟨⟨x1, x2, x3, q1, _⟩, q2, _⟩ := k.pool p e
    exact x.u p _ (.inl nt_lst) q1 q2
/-! ### calls -/
theorem Ext.same {n : Int} {σ : Sl} {Hs1 H1 Hs2 H2 : Hp} (k : OkS f env n σ Hs1 H1) (keep : Same H1 H2) (s2 : Same Hs1 Hs2) (fr : ∀ a o, Ntp o → H1 a = some o → Hs1 a = none → Hs2 a = none) : Ext f Hs1 H1 Hs2 H2 := by
  refine ⟨s2, fun a o _ e => keep a o e, fun a e => ?_, fun a o nt e z => ?_⟩
  rotate_left
  · rcases nt with nt | nt
    · exact fr a o nt e z
    · obtain ⟨⟨_, _, _, q1, _⟩, _⟩ := k.pool a nt.symm
      exact fr a _ nt_lst q1 z
  cases h : H1 a with
  | none => rfl
  | some o =>
    rw [keep a o h] at e
    cases e
theorem Ext.but {p : Addr} {n n0 : Int} {σ : Sl} {Hs1 H1 Hs2 H2 : Hp} (k : OkS f env n0 σ Hs1 H1) (h2 : f.P = some p) (keep : SameBut p H1 H2) (s2 : Same Hs1 Hs2) (fr : ∀ a o, Ntp o → H1 a = some o → Hs1 a = none → Hs2 a = none) (hp2 : PoolAt H2 p n) : Ext f Hs1 H1 Hs2 H2 := by
  refine ⟨s2, fun a o nP e => keep a o (fun z => nP (by rw [z, h2])) e, fun a e => ?_, fun a o nt e z => ?_⟩
  rotate_left
  · rcases nt with nt | nt
    · exact fr a o nt e z
    · obtain ⟨⟨_, _, _, q1, _⟩, _⟩ := k.pool a nt.symm
      exact fr a _ nt_lst q1 z
  cases h : H1 a with
  | none => rfl
  | some o =>
    by_cases z : a = p
    · subst z
      exact absurd e hp2.there
    · rw [keep a o z h] at e
      cases e
theorem ev_callP {m : τ → M ρ} {ma : M τ} (ha : EaM f tas env ma) : EvM f (tCall (spP f.C m) [] E tas) env (bnd ma fun x => pc (m x)) := fun n σ Hs H k Qd q Q w =>
  ha n σ Hs H k _ q _ fun x n1 vs Hs1 H1 q1 k1 s1 r1 => ⟨x, Hs1, fun r => Qd r n1, by rw [List.append_nil]; exact r1, k1.sub, q1, fun r v Hs2 H2 qr keep s2 sub2 fr rr =>
    have x2 : Ext f Hs1 H1 Hs2 H2 := .same k1 keep s2 fr
    w r n1 v Hs2 H2 qr (k1.ext x2 sub2 fun p hp => (k1.pool p hp).1.same keep) (s1.trans x2) rr⟩
theorem en_callP {m : τ → M (List ρ)} {ma : M τ} (ha : EaM f tas env ma) : EnM f (tCall (spPN f.C m) [] E tas) env (bnd ma fun x => pc (m x)) := fun n σ Hs H k Qd q Q w =>
  ha n σ Hs H k _ q _ fun x n1 vs Hs1 H1 q1 k1 s1 r1 => ⟨x, Hs1, fun r => Qd r n1, by rw [List.append_nil]; exact r1, k1.sub, q1, fun r a us Hs2 H2 qr keep s2 sub2 fr nn hs2 h2 rr =>
    have x2 : Ext f Hs1 H1 Hs2 H2 := .same k1 keep s2 fr
    w r n1 a us Hs2 H2 qr (k1.ext x2 sub2 fun p hp => (k1.pool p hp).1.same keep) (s1.trans x2) ⟨h2, hs2, k1.h0 nn, k1.own_ne nn, s1.t a nn⟩ rr⟩
theorem ev_callL {m : τ → M ρ} {ma : M τ} {i : Nat} (hi : env[i]? = some (some .pl)) (ha : EaM f tas env ma) : EvM f (tCall (spL f.C m) [] E (tCons (tVar i) tas)) env (bnd ma fun x => m x) := fun n σ Hs H k Qd q Q w => by
  have hl : i < σ.length := by
    have := (List.getElem?_eq_some_iff.mp hi).1
    rw [k.len] at this
    exact this
  obtain ⟨p, h1, h2⟩ := k.sl i _ _ hi (List.getElem?_eq_getElem hl)
  refine ⟨.ref p, by rw [List.getElem?_eq_getElem hl, h1], ha n σ Hs H k _ q _ fun x n1 vs Hs1 H1 q1 k1 s1 r1 => ?_⟩
  obtain ⟨p1, p2, p3⟩ := k1.pool p h2
  refine ⟨p, vs, x, Hs1, n1, Qd, by simp, r1, k1.sub, p1, p2, q1, fun r n2 v Hs2 H2 qr keep s2 sub2 fr hp2 rr => ?_⟩
  have x2 : Ext f Hs1 H1 Hs2 H2 := .but k1 h2 keep s2 fr hp2
  exact w r n2 v Hs2 H2 qr (k1.ext x2 sub2 fun q hq => by
    rw [h2] at hq
    obtain rfl := Option.some.inj hq
    exact hp2) (s1.trans x2) rr
theorem en_callL {m : τ → M (List ρ)} {ma : M τ} {i : Nat} (hi : env[i]? = some (some .pl)) (ha : EaM f tas env ma) : EnM f (tCall (spLN f.C m) [] E (tCons (tVar i) tas)) env (bnd ma fun x => m x) := fun n σ Hs H k Qd q Q w => by
  have hl : i < σ.length := by
    have := (List.getElem?_eq_some_iff.mp hi).1
    rw [k.len] at this
    exact this
  obtain ⟨p, h1, h2⟩ := k.sl i _ _ hi (List.getElem?_eq_getElem hl)
  refine ⟨.ref p, by rw [List.getElem?_eq_getElem hl, h1], ha n σ Hs H k _ q _ fun x n1 vs Hs1 H1 q1 k1 s1 r1 => ?_⟩
  obtain ⟨p1, p2, p3⟩ := k1.pool p h2
  refine ⟨p, vs, x, Hs1, n1, Qd, by simp, r1, k1.sub, p1, p2, q1, fun r n2 a us Hs2 H2 qr keep s2 sub2 fr hp2 nn hs2 ha2 rr => ?_⟩
  have x2 : Ext f Hs1 H1 Hs2 H2 := .but k1 h2 keep s2 fr hp2
  exact w r n2 a us Hs2 H2 qr (k1.ext x2 sub2 fun q hq => by
    rw [h2] at hq
    obtain rfl := Option.some.inj hq
    exact hp2) (s1.trans x2) ⟨ha2, hs2, k1.h0 nn, k1.own_ne nn, s1.t a nn⟩ rr
/-- all arguments by name; r puts them into the parameters' order -/
theorem ev_callPK {τ' : Type} [EncL τ'] {m : τ → M ρ} {ma : M τ'} {gV : List V → List V → List V} (r : τ' → τ) (hr : ∀ (C : CK) (H : Hp) (vs : List V) (x : τ'), RepL C H vs (encl x) → RepL C H (gV [] vs) (encl (r x))) (ha : EaM f tas env ma) : EvM f (tCallK (spP f.C m) gV E tNil tas) env (bnd ma fun x => pc (m (r x))) := fun n σ Hs H k Qd q Q w =>
  ha n σ Hs H k _ q _ fun x n1 vs Hs1 H1 q1 k1 s1 r1 => ⟨r x, Hs1, fun r => Qd r n1, hr _ _ _ _ r1, k1.sub, q1, fun r v Hs2 H2 qr keep s2 sub2 fr rr =>
    have x2 : Ext f Hs1 H1 Hs2 H2 := .same k1 keep s2 fr
    w r n1 v Hs2 H2 qr (k1.ext x2 sub2 fun p hp => (k1.pool p hp).1.same keep) (s1.trans x2) rr⟩
theorem en_callPK {τ' : Type} [EncL τ'] {m : τ → M (List ρ)} {ma : M τ'} {gV : List V → List V → List V} (r : τ' → τ) (hr : ∀ (C : CK) (H : Hp) (vs : List V) (x : τ'), RepL C H vs (encl x) → RepL C H (gV [] vs) (encl (r x))) (ha : EaM f tas env ma) : EnM f (tCallK (spPN f.C m) gV E tNil tas) env (bnd ma fun x => pc (m (r x))) := fun n σ Hs H k Qd q Q w =>
  ha n σ Hs H k _ q _ fun x n1 vs Hs1 H1 q1 k1 s1 r1 => ⟨r x, Hs1, fun r => Qd r n1, hr _ _ _ _ r1, k1.sub, q1, fun r a us Hs2 H2 qr keep s2 sub2 fr nn hs2 h2 rr =>
    have x2 : Ext f Hs1 H1 Hs2 H2 := .same k1 keep s2 fr
    w r n1 a us Hs2 H2 qr (k1.ext x2 sub2 fun p hp => (k1.pool p hp).1.same keep) (s1.trans x2) ⟨h2, hs2, k1.h0 nn, k1.own_ne nn, s1.t a nn⟩ rr⟩
/-- a promise of a new list is one of a list -/
theorem spPN_spP {C : CK} {m : τ → M (List ρ)} {vs : List V} {H : Hp} {Q : VK} {E : XK} (h : spP C m vs H Q E) : spPN C m vs H Q E := by
  obtain ⟨x, Hs, Qd, h1, h2, h3, h4⟩ := h
  exact ⟨x, Hs, Qd, h1, h2, h3, fun r a us Hs' H' q keep s sub fr nn hs ha rr => h4 r _ (upd Hs' a (.lst us)) H' q keep (s.trans (same_upd hs)) (fun b o e => by
    by_cases z : b = a
    · subst z
      rw [upd_same] at e
      obtain rfl := Option.some.inj e
      exact ha
    · rw [upd_ne z] at e
      exact sub b o e) (fun b o nt e n => by rw [upd_ne (ne_of_none e nn)]; exact fr b o nt e n) (.lst upd_same (rr.same (same_upd hs)))⟩
/-! ### statements -/
section
variable {D : Ends} {n n' : Int} {σ : Sl} {Hs H : Hp}
/-- what a def's end wants -/
def RtOk (f : Fr) (Rt : ρ → Int → Prop) (Q : VK) : Prop := ∀ r n' v env' σ' Hs' H', Rt r n' → OkS f env' n' σ' Hs' H' → Rep f.C Hs' v (enc r) → Q v H'
def RtNew (f : Fr) (Rt : List ρ → Int → Prop) (Q : VK) : Prop := ∀ r n' a us env' σ' Hs' H', Rt r n' → OkS f env' n' σ' Hs' H' → f.H0 a = none → Hs' a = none → H' a = some (.lst us) → RepL f.C Hs' us (r.map enc) → Q (.ref a) H'
theorem nx_go {u : TS} {D0 : Ends} (h : u D0 σ H) : (Ends.nx { D0 with nx := u D0 }) σ H := h
theorem sq {t u : TS} (h : t { D with nx := u D } σ H) : tSeq t u D σ H := h
theorem go_ret {m : M ρ} {Rt : ρ → Int → Prop} (ok : OkS f env n σ Hs H) (he : EvM f te env m) (hm : m n Rt) (hrt : RtOk f Rt D.rt) : tRet te D σ H :=
  he n σ Hs H ok _ hm _ fun r n' v Hs' H' q k s rr => hrt r n' v env σ Hs' H' q k rr
theorem go_retN {m : M (List ρ)} {Rt : List ρ → Int → Prop} (ok : OkS f env n σ Hs H) (he : EnM f te env m) (hm : m n Rt) (hrt : RtNew f Rt D.rt) : tRet te D σ H :=
  he n σ Hs H ok _ hm _ fun r n' a us Hs' H' q k s nw rr => hrt r n' a us env σ Hs' H' q k nw.h0 nw.hs nw.h rr
/-- a list of its own is given back -/
theorem go_retO {i : Nat} {xs : List ρ} {Rt : List ρ → Int → Prop} (ok : OkS f env n σ Hs H) (hi : env[i]? = some (some (.ow (xs.map enc)))) (hm : Rt xs n) (hrt : RtNew f Rt D.rt) : tRet (tVar i) D σ H := by
  have hl : i < σ.length := by
    have := (List.getElem?_eq_some_iff.mp hi).1
    rw [ok.len] at this
    exact this
  obtain ⟨a, us, h1, h2, h3, h4, h5⟩ := ok.sl i _ _ hi (List.getElem?_eq_getElem hl)
  exact ⟨.ref a, by rw [List.getElem?_eq_getElem hl, h1], hrt xs n a us env σ Hs H hm ok h3 h2 h4 h5⟩
theorem RtNew.of {Rt : List ρ → Int → Prop} {Q : VK} (h : RtOk f Rt Q) : RtNew f Rt Q := fun r n' a us env' σ' Hs' H' q k h0 hs ha rr =>
  have k2 : OkS f ([] : DE) n' [] Hs' H' := k.weak rfl fun i e h => by simp at h
  h r n' _ [] [] (upd Hs' a (.lst us)) H' q (k2.share ha hs h0 fun j e h => by simp at h) (.lst upd_same (rr.same (same_upd hs)))
theorem go_set {m : M α} {Qd : α → Int → Prop} {i : Nat} (ok : OkS f env n σ Hs H) (he : EvM f te env m) (hm : m n Qd) (w : ∀ a n' σ' Hs' H', Qd a n' → OkS f (env.set i (some (.sh (enc a)))) n' σ' Hs' H' → D.nx σ' H') : tAsg te (gName i) D σ H :=
  he n σ Hs H ok _ hm _ fun a n' v Hs' H' q k s r => w a n' _ Hs' H' q (k.setS r)
theorem go_new {m : M (List α)} {Qd : List α → Int → Prop} {i : Nat} (ok : OkS f env n σ Hs H) (he : EnM f te env m) (hm : m n Qd) (w : ∀ a n' σ' Hs' H', Qd a n' → OkS f (env.set i (some (.ow (a.map enc)))) n' σ' Hs' H' → D.nx σ' H') : tAsg te (gName i) D σ H :=
  he n σ Hs H ok _ hm _ fun a n' p vs Hs' H' q k s nw r => w a n' _ Hs' H' q (k.setO nw.h nw.hs nw.h0 r nw.nu)
theorem go_asg {js : List Nat} {e' : α → DE → DE} {m : M α} {Qd : α → Int → Prop} (ok : OkS f env n σ Hs H) (he : EvM f te env m) (hg : EgM f g js e') (hm : m n Qd) (w : ∀ a n' σ' Hs' H', Qd a n' → OkS f (e' a env) n' σ' Hs' H' → D.nx σ' H') : tAsg te g D σ H :=
  he n σ Hs H ok _ hm _ fun a n' v Hs' H' q k s r => hg env n' σ Hs' H' v a k r _ fun σ' _ k' => w a n' σ' Hs' H' q k'
theorem go_drop {m : M α} {Qd : α → Int → Prop} (ok : OkS f env n σ Hs H) (he : EvM f te env m) (hm : m n Qd) (w : ∀ a n' σ' Hs' H', Qd a n' → OkS f env n' σ' Hs' H' → D.nx σ' H') : tDrop te D σ H :=
  he n σ Hs H ok _ hm _ fun a n' v Hs' H' q k s r => w a n' σ Hs' H' q k
/-- a, b = .. -/
theorem go_par {ma : M α} {mb : M β} {Qd : α → Int → Prop} {Rd : α → β → Int → Prop} {i j : Nat} (hij : i ≠ j) (ok : OkS f env n σ Hs H) (ha : EvM f ta env ma) (hb : EvM f tb env mb) (hm : ma n Qd) (hq : ∀ a n', Qd a n' → mb n' (Rd a))
    (w : ∀ a b n' σ' Hs' H', Rd a b n' → OkS f ((env.set i (some (.sh (enc a)))).set j (some (.sh (enc b)))) n' σ' Hs' H' → D.nx σ' H') : tPar i j (tCons ta (tCons tb tNil)) D σ H :=
  ha n σ Hs H ok _ hm _ fun a n1 v Hs1 H1 q1 k1 s1 r1 => hb n1 σ Hs1 H1 k1 _ (hq a n1 q1) _ fun b n2 u Hs2 H2 q2 k2 s2 r2 => ⟨v, u, rfl, w a b n2 _ Hs2 H2 q2 ((k2.setS (r1.same s2.s)).setS r2)⟩
theorem go_parN {ma : M (List α)} {mb : M (List β)} {Qd : List α → Int → Prop} {Rd : List α → List β → Int → Prop} {i j : Nat} (hij : i ≠ j) (ok : OkS f env n σ Hs H) (ha : EnM f ta env ma) (hb : EnM f tb env mb) (hm : ma n Qd) (hq : ∀ a n', Qd a n' → mb n' (Rd a))
    (w : ∀ a b n' σ' Hs' H', Rd a b n' → OkS f ((env.set i (some (.ow (a.map enc)))).set j (some (.ow (b.map enc)))) n' σ' Hs' H' → D.nx σ' H') : tPar i j (tCons ta (tCons tb tNil)) D σ H :=
  ha n σ Hs H ok _ hm _ fun a n1 p vs Hs1 H1 q1 k1 s1 nw1 r1 => hb n1 σ Hs1 H1 k1 _ (hq a n1 q1) _ fun b n2 p2 us Hs2 H2 q2 k2 s2 nw2 r2 => ⟨_, _, rfl, w a b n2 _ Hs2 H2 q2 (by
    have hp := s2.k p _ (k1.notP (.inl nw1.h0)) nw1.h
    have hs := s2.u p _ (.inl nt_lst) nw1.h nw1.hs
    refine (k2.setO hp hs nw1.h0 (r1.same s2.s) nw1.nu).setO nw2.h nw2.hs nw2.h0 r2 (nw2.nu.set (fun _ z => ?_) (fun z => by cases z))
    have z : p = p2 := by simpa using z
    have := nw2.n
    rw [← z, nw1.h] at this
    cases this)⟩
theorem go_parNS {ma : M (List α)} {mb : M β} {Qd : List α → Int → Prop} {Rd : List α → β → Int → Prop} {i j : Nat} (hij : i ≠ j) (ok : OkS f env n σ Hs H) (ha : EnM f ta env ma) (hb : EvM f tb env mb) (hm : ma n Qd) (hq : ∀ a n', Qd a n' → mb n' (Rd a))
    (w : ∀ a b n' σ' Hs' H', Rd a b n' → OkS f ((env.set i (some (.ow (a.map enc)))).set j (some (.sh (enc b)))) n' σ' Hs' H' → D.nx σ' H') : tPar i j (tCons ta (tCons tb tNil)) D σ H :=
  ha n σ Hs H ok _ hm _ fun a n1 p vs Hs1 H1 q1 k1 s1 nw1 r1 => hb n1 σ Hs1 H1 k1 _ (hq a n1 q1) _ fun b n2 u Hs2 H2 q2 k2 s2 r2 => ⟨_, _, rfl, w a b n2 _ Hs2 H2 q2 (by
    have hp := s2.k p _ (k1.notP (.inl nw1.h0)) nw1.h
    have hs := s2.u p _ (.inl nt_lst) nw1.h nw1.hs
    exact (k2.setO hp hs nw1.h0 (r1.same s2.s) nw1.nu).setS r2)⟩
theorem go_parSN {ma : M α} {mb : M (List β)} {Qd : α → Int → Prop} {Rd : α → List β → Int → Prop} {i j : Nat} (hij : i ≠ j) (ok : OkS f env n σ Hs H) (ha : EvM f ta env ma) (hb : EnM f tb env mb) (hm : ma n Qd) (hq : ∀ a n', Qd a n' → mb n' (Rd a))
    (w : ∀ a b n' σ' Hs' H', Rd a b n' → OkS f ((env.set i (some (.sh (enc a)))).set j (some (.ow (b.map enc)))) n' σ' Hs' H' → D.nx σ' H') : tPar i j (tCons ta (tCons tb tNil)) D σ H :=
  ha n σ Hs H ok _ hm _ fun a n1 v Hs1 H1 q1 k1 s1 r1 => hb n1 σ Hs1 H1 k1 _ (hq a n1 q1) _ fun b n2 p2 us Hs2 H2 q2 k2 s2 nw2 r2 => ⟨_, _, rfl, w a b n2 _ Hs2 H2 q2 (by
    exact (k2.setS (r1.same s2.s)).setO nw2.h nw2.hs nw2.h0 r2 (nw2.nu.set (fun z => by cases z) (fun z => by cases z)))⟩
/-! lists of one's own, changed -/
theorem OkS.ow (k : OkS f env n σ Hs H) {i : Nat} {ds : List Dt} (hi : env[i]? = some (some (.ow ds))) : ∃ a vs, σ[i]? = some (some (.ref a)) ∧ H a = some (.lst vs) ∧ RepL f.C Hs vs ds ∧ f.H0 a = none := by
  have hl : i < σ.length := by
    have := (List.getElem?_eq_some_iff.mp hi).1
    rw [k.len] at this
    exact this
  obtain ⟨a, us, h1, h2, h3, h4, h5⟩ := k.sl i _ _ hi (List.getElem?_eq_getElem hl)
  exact ⟨a, us, by rw [List.getElem?_eq_getElem hl, h1], h4, h5, h3⟩
theorem go_append {m : M α} {Qd : α → Int → Prop} {i : Nat} {xs : List α} (ok : OkS f env n σ Hs H) (hi : env[i]? = some (some (.ow (xs.map enc)))) (he : EvM f te env m) (hm : m n fun a n' => xs.length ≤ LIM ∧ Qd a n')
    (w : ∀ a n' σ' Hs' H', Qd a n' → OkS f (env.set i (some (.ow ((xs ++ [a]).map enc)))) n' σ' Hs' H' → D.nx σ' H') : tDrop (tBM K "list" rAppend (tVar i) (tCons te tNil)) D σ H := by
  obtain ⟨a, vs, h1, h2, h3, h4⟩ := ok.ow hi
  refine ⟨.ref a, h1, .inl ⟨rfl, _, SqL.of h2⟩, he n σ Hs H ok _ hm _ fun y n' v Hs' H' q k s r => ?_⟩
  have h2' := s.k a _ (ok.notP (.inl h4)) h2
  have hl := h3.len
  rw [List.length_map] at hl
  refine ⟨a, vs, v, rfl, rfl, h2', lim_lt (by rw [hl]; exact q.1), w y n' σ Hs' _ q.2 (k.write hi h1 ?_)⟩
  rw [List.map_append]
  exact (h3.same s.s).app (.cons r .nil)
theorem go_extend {m : M (List α)} {Qd : List α → Int → Prop} {i : Nat} {xs : List α} (ok : OkS f env n σ Hs H) (hi : env[i]? = some (some (.ow (xs.map enc)))) (he : ElM f te env m) (hm : m n fun a n' => xs.length + a.length ≤ LIM ∧ Qd a n')
    (w : ∀ a n' σ' Hs' H', Qd a n' → OkS f (env.set i (some (.ow ((xs ++ a).map enc)))) n' σ' Hs' H' → D.nx σ' H') : tDrop (tBM K "list" rExtend (tVar i) (tCons te tNil)) D σ H := by
  obtain ⟨a, vs, h1, h2, h3, h4⟩ := ok.ow hi
  refine ⟨.ref a, h1, .inl ⟨rfl, _, SqL.of h2⟩, he n σ Hs H ok _ hm _ fun y n' p us Hs' H' q k s np hp r => ?_⟩
  have h2' := s.k a _ (ok.notP (.inl h4)) h2
  have hl := h3.len
  have hl2 := r.len
  rw [List.length_map] at hl hl2
  refine ⟨a, p, vs, us, rfl, rfl, h2', hp, lim_size (by rw [hl, hl2]; exact q.1), w y n' σ Hs' _ q.2 (k.write hi h1 ?_)⟩
  rw [List.map_append]
  exact (h3.same s.s).app r
/-- v = xs.pop(k) -/
theorem go_popAt {js : List Nat} {e' : α → DE → DE} {m : M Int} {Qd : α → Nat → Int → Prop} {i : Nat} {xs : List α} (ok : OkS f env n σ Hs H) (hi : env[i]? = some (some (.ow (xs.map enc)))) (he : EvM f te env m) (hg : EgM f g js e')
    (hm : m n fun k n' => ∃ j : Nat, k = j ∧ j < xs.length ∧ xs.length ≤ LIM ∧ ∀ a, xs[j]? = some a → Qd a j n')
    (w : ∀ a j n' σ' Hs' H', Qd a j n' → OkS f (e' a (env.set i (some (.ow ((xs.eraseIdx j).map enc))))) n' σ' Hs' H' → D.nx σ' H') : tAsg (tBM K "list" rPopAt (tVar i) (tCons te tNil)) g D σ H := by
  obtain ⟨a, vs, h1, h2, h3, h4⟩ := ok.ow hi
  refine ⟨.ref a, h1, .inl ⟨rfl, _, SqL.of h2⟩, he n σ Hs H ok _ hm _ fun y n' v Hs' H' q k s r => ?_⟩
  have h2' := s.k a _ (ok.notP (.inl h4)) h2
  obtain ⟨j, ej, jl, lim, q⟩ := q
  have hl := h3.len
  rw [List.length_map] at hl
  have h3' := h3.same s.s
  obtain ⟨u, e1, e2⟩ := h3'.get j (enc xs[j]) (by rw [List.getElem?_map, List.getElem?_eq_getElem jl]; rfl)
  have jl2 : j < vs.length := by omega
  rw [rep_int r, ej]
  unfold LIM at lim
  have sx : seqIndex? (j : Int) vs.length = some j := by
    unfold seqIndex?
    have c1 : ¬ ((j : Int) < 0) := by omega
    simp only [c1, if_false]
    rw [if_pos (by simp; omega)]
    simp
  have k2 := k.write hi h1 (show RepL f.C Hs' (vs.eraseIdx j) ((xs.eraseIdx j).map enc) from by
    rw [List.eraseIdx_eq_take_drop_succ, List.eraseIdx_eq_take_drop_succ, List.map_append, List.map_take, List.map_drop]
    exact (h3'.take j).app (h3'.drop (j + 1)))
  exact ⟨a, vs, j, j, u, rfl, rfl, h2', by omega, by omega, sx, e1, hg _ n' σ Hs' _ u xs[j] k2 e2 _ fun σ' _ k' => w _ _ n' σ' Hs' _ (q _ (List.getElem?_eq_getElem jl)) k'⟩
/-- v = xs.pop() -/
theorem go_pop {js : List Nat} {e' : α → DE → DE} {Qd : α → Int → Prop} {i : Nat} {xs : List α} (ok : OkS f env n σ Hs H) (hi : env[i]? = some (some (.ow (xs.map enc)))) (hg : EgM f g js e')
    (hm : xs ≠ [] ∧ ∀ a, xs[xs.length - 1]? = some a → Qd a n)
    (w : ∀ a n' σ' Hs' H', Qd a n' → OkS f (e' a (env.set i (some (.ow (xs.dropLast.map enc))))) n' σ' Hs' H' → D.nx σ' H') : tAsg (tBM0 K "list" rPop (tVar i)) g D σ H := by
  obtain ⟨a, vs, h1, h2, h3, h4⟩ := ok.ow hi
  have hl := h3.len
  rw [List.length_map] at hl
  have hx : xs.length ≠ 0 := fun z => hm.1 (List.length_eq_zero_iff.mp z)
  have jl : xs.length - 1 < xs.length := by omega
  obtain ⟨u, e1, e2⟩ := h3.get (xs.length - 1) (enc xs[xs.length - 1]) (by rw [List.getElem?_map, List.getElem?_eq_getElem jl]; rfl)
  have k2 := ok.write hi h1 (show RepL f.C Hs vs.dropLast (xs.dropLast.map enc) from by
    rw [List.dropLast_eq_take, List.dropLast_eq_take, List.map_take, hl]
    exact h3.take _)
  exact ⟨.ref a, h1, .inl ⟨rfl, _, SqL.of h2⟩, a, vs, u, rfl, rfl, h2, by rw [hl]; exact e1, hg _ n σ Hs _ u _ k2 e2 _ fun σ' _ k' => w _ n σ' Hs _ (hm.2 _ (List.getElem?_eq_getElem jl)) k'⟩
/-- xs[k] = v -/
theorem go_setitem {m : M α} {mi : M Int} {Qd : α → Int → Prop} {Rd : α → Int → Int → Prop} {i : Nat} {xs : List α} (ok : OkS f env n σ Hs H) (hi : env[i]? = some (some (.ow (xs.map enc)))) (he : EvM f te env m) (hx : EvM f ta env mi)
    (hm : m n Qd) (hq : ∀ a n', Qd a n' → mi n' (Rd a)) (hr : ∀ a k n', Rd a k n' → ∃ j : Nat, ixN xs.length k = some j)
    (w : ∀ a k j n' σ' Hs' H', Rd a k n' → ixN xs.length k = some j → OkS f (env.set i (some (.ow ((xs.set j a).map enc)))) n' σ' Hs' H' → D.nx σ' H') : tAsg te (gSub (tVar i) ta rSetL) D σ H := by
  obtain ⟨a, vs, h1, h2, h3, h4⟩ := ok.ow hi
  refine he n σ Hs H ok _ hm _ fun y n1 v Hs1 H1 q1 k1 s1 r1 => ⟨.ref a, h1, hx n1 σ Hs1 H1 k1 _ (hq y n1 q1) _ fun k n2 u Hs2 H2 q2 k2 s2 r2 => ?_⟩
  obtain ⟨j, ej⟩ := hr _ _ _ q2
  have h2' := (s1.trans s2).k a _ (ok.notP (.inl h4)) h2
  have hl := h3.len
  rw [List.length_map] at hl
  rw [rep_int r2]
  refine ⟨a, vs, k, j, rfl, rfl, h2', by rw [hl]; exact ej, w y k j n2 σ Hs2 _ q2 ej (k2.write hi h1 ?_)⟩
  rw [List.map_set]
  exact RepL.set (r1.same s2.s) j (h3.same (s1.trans s2).s)
/-- xs.insert(k, v) -/
theorem go_insert {m : M α} {mi : M Int} {Qd : Int → Int → Prop} {Rd : Int → α → Int → Prop} {i : Nat} {xs : List α} (ok : OkS f env n σ Hs H) (hi : env[i]? = some (some (.ow (xs.map enc)))) (hx : EvM f ta env mi) (he : EvM f te env m)
    (hm : mi n Qd) (hq : ∀ k n', Qd k n' → m n' (Rd k)) (hr : ∀ k a n', Rd k a n' → 0 ≤ k ∧ k ≤ 1000000 ∧ xs.length ≤ LIM)
    (w : ∀ k a n' σ' Hs' H', Rd k a n' → OkS f (env.set i (some (.ow ((xs.take k.toNat ++ [a] ++ xs.drop k.toNat).map enc)))) n' σ' Hs' H' → D.nx σ' H') :
    tDrop (tBM K "list" (fun x vs H Q => ∃ (l : Addr) (xs : List V) (i : Int) (y : V), x = .ref l ∧ vs = [.int i, y] ∧ H l = some (.lst xs) ∧ xs.length < sizeLine ∧ 0 ≤ i ∧ i < 2 ^ 63 ∧
      Q .non (upd H l (.lst (xs.take i.toNat ++ [y] ++ xs.drop i.toNat)))) (tVar i) (tCons ta (tCons te tNil))) D σ H := by
  obtain ⟨a, vs, h1, h2, h3, h4⟩ := ok.ow hi
  refine ⟨.ref a, h1, .inl ⟨rfl, _, SqL.of h2⟩, hx n σ Hs H ok _ hm _ fun k n1 u Hs1 H1 q1 k1 s1 r1 => he n1 σ Hs1 H1 k1 _ (hq k n1 q1) _ fun y n2 v Hs2 H2 q2 k2 s2 r2 => ?_⟩
  obtain ⟨b1, b2, b3⟩ := hr _ _ _ q2
  have h2' := (s1.trans s2).k a _ (ok.notP (.inl h4)) h2
  have hl := h3.len
  rw [List.length_map] at hl
  rw [rep_int r1]
  have h3' := h3.same (s1.trans s2).s
  refine ⟨a, vs, k, v, rfl, rfl, h2', lim_lt (by rw [hl]; exact b3), b1, by omega, w k y n2 σ Hs2 _ q2 (k2.write hi h1 ?_)⟩
  rw [List.map_append, List.map_append, List.map_take, List.map_drop]
  exact ((h3'.take _).app (.cons r2 .nil)).app (h3'.drop _)
/-- from now on it is not changed -/
theorem OkS.freeze {i : Nat} {xs : List α} (k : OkS f env n σ Hs H) (hi : env[i]? = some (some (.ow (xs.map enc)))) : ∃ Hs', OkS f (env.set i (some (.sh (enc xs)))) n σ Hs' H ∧ Same Hs Hs' ∧ (∃ a vs, σ[i]? = some (some (.ref a)) ∧ Hs a = none ∧ Hs' = upd Hs a (.lst vs) ∧ H a = some (.lst vs) ∧ f.H0 a = none) := by
  have hl : i < σ.length := by
    have := (List.getElem?_eq_some_iff.mp hi).1
    rw [k.len] at this
    exact this
  obtain ⟨a, us, h1, h2, h3, h4, h5⟩ := k.sl i _ _ hi (List.getElem?_eq_getElem hl)
  have hσ : σ[i]? = some (some (.ref a)) := by rw [List.getElem?_eq_getElem hl, h1]
  have k1 : OkS f (env.set i none) n σ Hs H := k.weak (by rw [List.length_set]; exact k.len) fun j e h => by
    rcases getset h with ⟨_, rfl⟩ | ⟨_, h⟩
    · exact .inl rfl
    · exact .inr ⟨h, rfl⟩
  have k2 := k1.share h4 h2 h3 fun j e e1 o1 => by
    rcases getset e1 with ⟨_, rfl⟩ | ⟨ne, e1⟩
    · cases o1
    · have ap := k.apt i j a _ e ne hi e1 rfl o1 hσ
      exact ⟨ap.1, ap.2.1⟩
  have k3 := k2.setS (i := i) (v := .ref a) (d := enc xs) (.lst upd_same (h5.same (same_upd h2)))
  rw [List.set_set] at k3
  have e : σ.set i (some (.ref a)) = σ := by
    apply List.ext_getElem?
    intro j
    by_cases z : i = j
    · subst z
      rw [List.getElem?_set_self hl, hσ]
    · rw [List.getElem?_set_ne z]
  rw [e] at k3
  exact ⟨_, k3, same_upd h2, a, us, hσ, h2, rfl, h4, h3⟩
theorem go_freeze {i : Nat} {xs : List α} {tz : TS} (ok : OkS f env n σ Hs H) (hi : env[i]? = some (some (.ow (xs.map enc)))) (w : ∀ Hs', OkS f (env.set i (some (.sh (enc xs)))) n σ Hs' H → tz D σ H) : tz D σ H := by
  obtain ⟨Hs', k, _⟩ := ok.freeze hi
  exact w Hs' k
/-! a list of one's own, lent -/
class Flat (α : Type) [Enc α] : Prop where
  flat : ∀ (a : α) (C : CK) (H H' : Hp) (v : V), Rep C H v (enc a) → Rep C H' v (enc a)
instance : Flat Int := ⟨fun a C H H' v h => by cases h; exact .int _⟩
instance : Flat Bool := ⟨fun a C H H' v h => by cases h; exact .bl _⟩
instance : Flat Str := ⟨fun a C H H' v h => by cases h; exact .str _⟩
instance : Flat Unit := ⟨fun a C H H' v h => by cases h; exact .non⟩
instance {α : Type} [Enc α] [Flat α] : Flat (Option α) := ⟨fun a C H H' v h => by
  cases a with
  | none => cases h; exact .non
  | some a => exact Flat.flat a C H H' v h⟩
theorem flatL [Flat α] {C : CK} {H H' : Hp} : ∀ {vs : List V} {xs : List α}, RepL C H vs (xs.map enc) → RepL C H' vs (xs.map enc)
  | _, [], h => by
    cases h
    exact .nil
  | _, x :: xs, h => by
    cases h with
    | cons h1 h2 => exact .cons (Flat.flat x _ _ _ _ h1) (flatL h2)
/-- what is left of the known things -/
def less (Hs : Hp) (a : Addr) : Hp := fun b => if b = a then none else Hs b
theorem lend {i : Nat} {xs : List β} (hi : env[i]? = some (some (.ow (xs.map enc)))) (ok : OkS f env n σ Hs H) : ∃ a vs, OkS f (env.set i (some (.sh (enc xs)))) n σ (upd Hs a (.lst vs)) H ∧
    ∀ n' Hs' H', OkS f (env.set i (some (.sh (enc xs)))) n' σ Hs' H' → Ext f (upd Hs a (.lst vs)) H Hs' H' → OkS f env n' σ (less Hs' a) H' ∧ Ext f Hs H (less Hs' a) H' := by
  obtain ⟨_, k, _, a, vs, h1, h2, rfl, h4, h5⟩ := ok.freeze hi
  refine ⟨a, vs, k, fun n' Hs' H' k' x => ?_⟩
  have ex : Ext f Hs H (less Hs' a) H' := ⟨fun b o e => by
    have z : b ≠ a := ne_of_none e h2
    unfold less
    rw [if_neg z]
    exact x.s b o (by rw [upd_ne z]; exact e), x.k, x.t, fun b o nt e nb => by
    unfold less
    by_cases z : b = a
    · rw [if_pos z]
    · rw [if_neg z]
      exact x.u b o nt e (by rw [upd_ne z]; exact nb)⟩
  exact ⟨ok.ext ex (fun b o e => by
    unfold less at e
    by_cases z : b = a
    · rw [if_pos z] at e
      cases e
    · rw [if_neg z] at e
      exact k'.sub b o e) fun p hp => (k'.pool p hp).1, ex⟩
end
theorem ev_lend [Flat α] {i : Nat} {xs : List β} {m : M α} (hi : env[i]? = some (some (.ow (xs.map enc)))) (h : EvM f te (env.set i (some (.sh (enc xs)))) m) : EvM f te env m := fun n σ Hs H ok Qd q Q w => by
  obtain ⟨a, vs, k, back⟩ := lend hi ok
  refine h n σ _ H k _ q _ fun c n' v Hs' H' qc k' x r => ?_
  obtain ⟨k2, x2⟩ := back _ _ _ k' x
  exact w c n' v _ H' qc k2 x2 (Flat.flat c _ _ _ _ r)
theorem et_lend {i : Nat} {xs : List β} {m : M Bool} (hi : env[i]? = some (some (.ow (xs.map enc)))) (h : EtM f tt (env.set i (some (.sh (enc xs)))) m) : EtM f tt env m := fun n σ Hs H ok Qd q Q w => by
  obtain ⟨a, vs, k, back⟩ := lend hi ok
  refine h n σ _ H k _ q _ fun c n' Hs' H' qc k' x => ?_
  obtain ⟨k2, x2⟩ := back _ _ _ k' x
  exact w c n' _ H' qc k2 x2
theorem en_lend [Flat α] {i : Nat} {xs : List β} {m : M (List α)} (hi : env[i]? = some (some (.ow (xs.map enc)))) (h : EnM f te (env.set i (some (.sh (enc xs)))) m) : EnM f te env m := fun n σ Hs H ok Qd q Q w => by
  obtain ⟨a, vs, k, back⟩ := lend hi ok
  have hσ := ok.ow hi
  refine h n σ _ H k _ q _ fun c n' p us Hs' H' qc k' x nw r => ?_
  obtain ⟨k2, x2⟩ := back _ _ _ k' x
  refine w c n' p us _ H' qc k2 x2 ⟨nw.h, ?_, nw.h0, fun j e e1 o1 => ?_, nw.n⟩ (flatL r)
  · unfold less
    split
    · rfl
    · exact nw.hs
  · by_cases z : i = j
    · subst z
      have ee : e = some (.ow (xs.map enc)) := Option.some.inj (e1.symm.trans hi)
      subst ee
      refine ⟨fun e2 => ?_, fun z => by cases z⟩
      obtain ⟨b, ws, h1, h2, _⟩ := hσ
      rw [e2] at h1
      obtain rfl : p = b := by simpa using h1
      rw [nw.n] at h2
      cases h2
    · exact nw.nu j e (by rw [List.getElem?_set_ne z]; exact e1) o1
end
end WH
namespace WH
open PySem PySem.Spec PyProof.Rows L2
open Enc (enc)
open EncL (encl)
/-! ### tests and loops -/
/-- two ways that come together in J -/
abbrev joinM {S : Type} (J : S → Int → Prop) (B : (S → Int → Prop) → Prop) : Prop := B J
/-- for x in xs -/
def forW {α S : Type} (body : α → S → Int → (S → Int → Prop) → Prop) (done : S → Int → Prop) : List α → S → Int → Prop
  | [], s, n => done s n
  | x :: r, s, n => body x s n fun s' n' => forW body done r s' n'
/-- while t: at most k turns -/
def whileW {S : Type} (test : S → Int → (Bool → Int → Prop) → Prop) (body : S → Int → (S → Int → Prop) → Prop) (done : S → Int → Prop) : Nat → S → Int → Prop
  | 0, _, _ => False
  | k + 1, s, n => test s n fun b n' => (b = true → body s n' fun s' n'' => whileW test body done k s' n'') ∧ (b = false → done s n')
/-- a frame within a loop -/
structure Above (f f1 : Fr) : Prop where
  c : f1.C = f.C
  h : f1.H0 = f.H0
  p : f1.P = f.P
  s : Same f.Hs0 f1.Hs0
  fr : ∀ a o, Ntp o → f.H0 a = some o → f.Hs0 a = none → f1.Hs0 a = none
theorem Above.refl {f : Fr} : Above f f := ⟨rfl, rfl, rfl, Same.refl _, fun _ _ _ _ e => e⟩
section
variable {f f1 f2 : Fr} {env env' : DE} {α β γ δ ρ τ S : Type} [Enc α] [Enc β] [Enc γ] [Enc δ] [Enc ρ] [EncL τ] {ta tb tc td te : TE} {tt uu : TT} {tas : TA} {ti : TI} {g : TG} {K : PySem.W.Frag} {E : XK} {D : Ends} {n n' : Int} {σ : Sl} {Hs H : Hp}
theorem OkS.down (A : Above f f1) (k : OkS f1 env n σ Hs H) : OkS f env n σ Hs H := by
  obtain ⟨c, h, p, s, fr⟩ := A
  cases f1
  cases f
  subst c h p
  exact ⟨k.len, k.sub, s.trans k.mono, k.keep, fun a o nt e z => k.frsh a o nt e (fr a o nt e z), k.sl, k.apt, k.pool, k.nt⟩
/-- from here on what is known stays -/
def Fr.at' (f : Fr) (Hs : Hp) : Fr := { f with Hs0 := Hs }
theorem OkS.up (k : OkS f env n σ Hs H) : OkS (f.at' Hs) env n σ Hs H ∧ Above f (f.at' Hs) :=
  ⟨⟨k.len, k.sub, Same.refl _, k.keep, fun a o _ _ e => e, k.sl, k.apt, k.pool, k.nt⟩, rfl, rfl, rfl, k.mono, k.frsh⟩
theorem RtOk.up {Rt : ρ → Int → Prop} {Q : VK} (h : RtOk f Rt Q) (A : Above f f1) : RtOk f1 Rt Q := fun r n' v env' σ' Hs' H' q k rr => h r n' v env' σ' Hs' H' q (k.down A) (by rw [← A.c]; exact rr)
theorem RtNew.up {Rt : List ρ → Int → Prop} {Q : VK} (h : RtNew f Rt Q) (A : Above f f1) : RtNew f1 Rt Q := fun r n' a us env' σ' Hs' H' q k h0 hs ha rr => h r n' a us env' σ' Hs' H' q (k.down A) (by rw [← A.h]; exact h0) hs ha (by rw [← A.c]; exact rr)
theorem go_if {m : M Bool} {Qd : Bool → Int → Prop} {t u : TS} (ok : OkS f env n σ Hs H) (ht : EtM f tt env m) (hm : m n Qd) (h1 : ∀ n' Hs' H', Qd true n' → OkS f env n' σ Hs' H' → t D σ H') (h2 : ∀ n' Hs' H', Qd false n' → OkS f env n' σ Hs' H' → u D σ H') : tIfS tt t u D σ H :=
  ht n σ Hs H ok _ hm _ fun b n' Hs' H' q k s => by
    cases b with
    | true =>
      rw [if_pos rfl]
      exact h1 n' Hs' H' q k
    | false =>
      rw [if_neg Bool.false_ne_true]
      exact h2 n' Hs' H' q k
theorem go_next (h : D.nx σ H) : tNext D σ H := h
theorem go_join {envOf : S → DE} {J : S → Int → Prop} {B : (S → Int → Prop) → Prop} {t u : TS} (ok : OkS f env n σ Hs H) (hm : joinM J B) (h1 : ∀ N : Sl → Hp → Prop, (∀ s n σ' Hs' H', J s n → OkS f (envOf s) n σ' Hs' H' → N σ' H') → B J → t { D with nx := N } σ H)
    (h2 : ∀ s n σ' Hs' H', J s n → OkS f (envOf s) n σ' Hs' H' → u D σ' H') : tSeq t u D σ H := h1 _ h2 hm
theorem go_for {js : List Nat} {e' : α → DE → DE} {envOf : S → DE} {ms : M (List α)} {Qd : List α → Int → Prop} {body : α → S → Int → (S → Int → Prop) → Prop} {done : S → Int → Prop} {s0 : S} {tbd : TS} (ok : OkS f env n σ Hs H) (hs : EsM f ti env ms) (hg : ∀ Hs1, EgM (f.at' Hs1) g js e') (hm : ms n Qd)
    (hq : ∀ xs n', Qd xs n' → forW body done xs s0 n') (h0 : Wk env (envOf s0))
    (step : ∀ Hs1, Above f (f.at' Hs1) → ∀ a s n σ Hs H (N : Sl → Hp → Prop) (Nx : S → Int → Prop), (∀ s' n' σ' Hs' H', Nx s' n' → OkS (f.at' Hs1) (envOf s') n' σ' Hs' H' → N σ' H') → body a s n Nx → OkS (f.at' Hs1) (e' a (envOf s)) n σ Hs H → tbd { D with nx := N, ct := N, bk := D.nx } σ H)
    (after : ∀ s n σ Hs H, done s n → OkS f (envOf s) n σ Hs H → D.nx σ H) : tFor ti g tbd D σ H :=
  hs n σ Hs H ok _ hm _ fun xs n1 Hs1 H1 J q1 k1 s1 it => by
    obtain ⟨k2, A⟩ := k1.up
    refine ⟨fun i m σ' H' => m = xs.length - i ∧ i ≤ xs.length ∧ ∃ s n' Hs', OkS (f.at' Hs1) (envOf s) n' σ' Hs' H' ∧ forW body done (xs.drop i) s n', ⟨xs.length, by simp, Nat.zero_le _, s0, n1, Hs1, k2.wk h0, hq xs n1 q1⟩, ?_⟩
    rintro i m σ' H' ⟨rfl, hi, s, n2, Hs2, k3, q2⟩
    by_cases hlt : i < xs.length
    · refine .inr ⟨it.go i Hs2 H' k3.mono k3.sub hlt, fun σ'' H'' => ∃ m', m' < xs.length - i ∧ (m' = xs.length - (i + 1) ∧ i + 1 ≤ xs.length ∧ ∃ s n' Hs', OkS (f.at' Hs1) (envOf s) n' σ'' Hs' H'' ∧ forW body done (xs.drop (i + 1)) s n'), fun _ _ h => h, ?_⟩
      intro x H3 hy
      have e : xs[i]? = some xs[i] := List.getElem?_eq_getElem hlt
      have ed : xs.drop i = xs[i] :: xs.drop (i + 1) := List.drop_eq_getElem_cons hlt
      generalize xs[i] = a at e ed
      rw [ed] at q2
      have ye : ∃ Hs3, OkS f (envOf s) n2 σ' Hs3 H3 ∧ Ext f Hs2 H' Hs3 H3 ∧ Rep f.C Hs3 x (enc a) := it.yld i a _ _ _ _ _ x H3 e (k3.down A) k3.mono hy
      obtain ⟨Hs3, k4, x4, r4⟩ := ye
      have k5 : OkS (f.at' Hs1) (envOf s) n2 σ' Hs3 H3 := k3.ext ⟨x4.s, x4.k, x4.t, x4.u⟩ k4.sub fun p hp => (k4.pool p hp).1
      refine hg Hs1 _ _ _ _ _ x a k5 r4 _ fun σ5 _ k6 => ?_
      refine step Hs1 A a s n2 σ5 Hs3 H3 _ _ (fun s' n' σ'' Hs' H'' hN kk => ?_) q2 k6
      exact ⟨_, by omega, rfl, hlt, s', n', Hs', kk, hN⟩
    · have e : i = xs.length := by omega
      subst e
      rw [List.drop_length] at q2
      exact .inl ⟨it.stop Hs2 H' k3.mono k3.sub, after s n2 σ' Hs2 H' q2 (k3.down A)⟩
theorem go_while {envOf : S → DE} {test : S → Int → (Bool → Int → Prop) → Prop} {body : S → Int → (S → Int → Prop) → Prop} {done : S → Int → Prop} {s0 : S} {tbd : TS} (ok : OkS f env n σ Hs H) (ht : ∀ s, EtM f tt (envOf s) (test s)) (hm : ∃ k, whileW test body done k s0 n) (h0 : Wk env (envOf s0))
    (step : ∀ s n σ Hs H (N : Sl → Hp → Prop) (Nx : S → Int → Prop), (∀ s' n' σ' Hs' H', Nx s' n' → OkS f (envOf s') n' σ' Hs' H' → N σ' H') → body s n Nx → OkS f (envOf s) n σ Hs H → tbd { D with nx := N, ct := N, bk := D.nx } σ H)
    (after : ∀ s n σ Hs H, done s n → OkS f (envOf s) n σ Hs H → D.nx σ H) : tWhile tt tbd D σ H := by
  obtain ⟨k, hm⟩ := hm
  refine ⟨fun m σ' H' => ∃ s n' Hs', OkS f (envOf s) n' σ' Hs' H' ∧ whileW test body done m s n', ⟨k, s0, n, Hs, ok.wk h0, hm⟩, ?_⟩
  rintro m σ' H' ⟨s, n1, Hs1, k1, q1⟩
  cases m with
  | zero => exact q1.elim
  | succ m =>
    refine ht s n1 σ' Hs1 H' k1 _ q1 _ fun b n2 Hs2 H2 q2 k2 s2 => ?_
    cases b with
    | true =>
      rw [if_pos rfl]
      refine ⟨fun σ'' H'' => ∃ s n' Hs', OkS f (envOf s) n' σ'' Hs' H'' ∧ whileW test body done m s n', fun σ'' H'' h => ⟨m, by omega, h⟩, ?_⟩
      exact step s n2 σ' Hs2 H2 _ _ (fun s' n' σ'' Hs' H'' hN kk => ⟨s', n', Hs', kk, hN⟩) (q2.1 rfl) k2
    | false =>
      rw [if_neg Bool.false_ne_true]
      exact after s n2 σ' Hs2 H2 (q2.2 rfl) k2
/-! ### a def's start -/
theorem start_get {N : List Str} {vs : List V} {i : Nat} {v : Option V} (h : (start N vs)[i]? = some v) : (∃ u, vs[i]? = some u ∧ v = some u) ∨ (vs.length ≤ i ∧ v = none) := by
  unfold L2.start at h
  by_cases c : i < vs.length
  · rw [List.getElem?_append_left (by simpa using c), List.getElem?_map, List.getElem?_eq_getElem c] at h
    exact .inl ⟨_, List.getElem?_eq_getElem c, (Option.some.inj h).symm⟩
  · rw [List.getElem?_append_right (by simp; omega), List.length_map, List.getElem?_replicate] at h
    split at h
    · exact .inr ⟨by omega, (Option.some.inj h).symm⟩
    · cases h
def env0 (k : Nat) (ds : List Dt) : DE := ds.map (fun d => some (.sh d)) ++ List.replicate (k - ds.length) none
def env0L (k : Nat) (ds : List Dt) : DE := some .pl :: ds.map (fun d => some (.sh d)) ++ List.replicate (k - (ds.length + 1)) none
theorem ok_start {C : CK} {N : List Str} {vs : List V} {ds : List Dt} (r : RepL C Hs vs ds) (s : Same Hs H) (hl : vs.length ≤ N.length) : OkS ⟨C, Hs, H, none⟩ (env0 N.length ds) 0 (start N vs) Hs H := by
  have hln := r.len
  refine ⟨by simp [env0, L2.start]; omega, s, Same.refl _, fun a o _ e => e, fun a o _ _ e => e, fun i e v h1 h2 => ?_, fun i j a e e' _ h1 h2 o1 o2 _ => ?_, (fun p h => nomatch h), fun i e h1 => ?_⟩
  · unfold env0 at h1
    by_cases c : i < ds.length
    · rw [List.getElem?_append_left (by simpa using c), List.getElem?_map, List.getElem?_eq_getElem c] at h1
      obtain rfl := (Option.some.inj h1).symm
      obtain ⟨u, e1, e2⟩ := r.get i _ (List.getElem?_eq_getElem c)
      rcases start_get h2 with ⟨w, e3, rfl⟩ | ⟨e3, _⟩
      · rw [e1] at e3
        obtain rfl := Option.some.inj e3
        exact ⟨u, rfl, e2⟩
      · omega
    · rw [List.getElem?_append_right (by simp; omega), List.length_map, List.getElem?_replicate] at h1
      split at h1
      · obtain rfl := (Option.some.inj h1).symm
        trivial
      · cases h1
  · unfold env0 at h1
    exfalso
    have : e ∈ ds.map (fun d => some (Sd.sh d)) ++ List.replicate (N.length - ds.length) none := List.mem_of_getElem? h1
    rcases List.mem_append.mp this with z | z
    · obtain ⟨d, _, rfl⟩ := List.mem_map.mp z
      cases o1
    · rw [(List.mem_replicate.mp z).2] at o1
      cases o1
  · unfold env0 at h1
    rcases List.mem_append.mp (List.mem_of_getElem? h1) with z | z
    · obtain ⟨d, _, rfl⟩ := List.mem_map.mp z
      trivial
    · rw [(List.mem_replicate.mp z).2]
      trivial
theorem ok_startL {C : CK} {N : List Str} {vs : List V} {ds : List Dt} {p : Addr} {n : Int} (r : RepL C Hs vs ds) (s : Same Hs H) (hp : PoolAt H p n) (hn : Hs p = none) (hl : vs.length + 1 ≤ N.length) : OkS ⟨C, Hs, H, some p⟩ (env0L N.length ds) n (start N (.ref p :: vs)) Hs H := by
  have hln := r.len
  refine ⟨by simp [env0L, L2.start]; omega, s, Same.refl _, fun a o _ e => e, fun a o _ _ e => e, fun i e v h1 h2 => ?_, fun i j a e e' _ h1 h2 o1 o2 _ => ?_, fun q h => ?_, fun i e h1 => ?_⟩
  · unfold env0L at h1
    cases i with
    | zero =>
      have h1 := (Option.some.inj h1).symm
      subst h1
      rcases start_get h2 with ⟨w, e3, rfl⟩ | ⟨e3, _⟩
      · obtain rfl := (Option.some.inj e3).symm
        exact ⟨p, rfl, rfl⟩
      · simp at e3
    | succ i =>
      have h1 : (ds.map (fun d => some (Sd.sh d)) ++ List.replicate (N.length - (ds.length + 1)) none)[i]? = some e := by simpa using h1
      by_cases c : i < ds.length
      · rw [List.getElem?_append_left (by simpa using c), List.getElem?_map, List.getElem?_eq_getElem c] at h1
        obtain rfl := (Option.some.inj h1).symm
        obtain ⟨u, e1, e2⟩ := r.get i _ (List.getElem?_eq_getElem c)
        rcases start_get h2 with ⟨w, e3, rfl⟩ | ⟨e3, _⟩
        · have e3 : vs[i]? = some w := by simpa using e3
          rw [e1] at e3
          obtain rfl := Option.some.inj e3
          exact ⟨u, rfl, e2⟩
        · simp at e3
          omega
      · rw [List.getElem?_append_right (by simp; omega), List.length_map, List.getElem?_replicate] at h1
        split at h1
        · obtain rfl := (Option.some.inj h1).symm
          trivial
        · cases h1
  · unfold env0L at h1
    exfalso
    have : e ∈ some Sd.pl :: ds.map (fun d => some (Sd.sh d)) ++ List.replicate (N.length - (ds.length + 1)) none := List.mem_of_getElem? h1
    rcases List.mem_append.mp this with z | z
    · rcases List.mem_cons.mp z with z | z
      · subst z
        cases o1
      · obtain ⟨d, _, rfl⟩ := List.mem_map.mp z
        cases o1
    · rw [(List.mem_replicate.mp z).2] at o1
      cases o1
  · obtain rfl := Option.some.inj h
    exact ⟨hp, hn, hp.there⟩
  · unfold env0L at h1
    rcases List.mem_append.mp (List.mem_of_getElem? h1) with z | z
    · rcases List.mem_cons.mp z with rfl | z
      · trivial
      · obtain ⟨d, _, rfl⟩ := List.mem_map.mp z
        trivial
    · rw [(List.mem_replicate.mp z).2]
      trivial
end
section
variable {P : Program} {w : World} {K : PySem.W.Frag} {mg : Str → Option Value} {base : Heap} {τ ρ : Type} [EncL τ] [Enc ρ] {C : CK} {m : τ → M ρ} {ml : τ → M (List ρ)} {x qual : Str} {st : Stmt} {f : Addr} {fd : FuncData} {N ps : List Str} {k : Nat}
/-- def's that keep promises by data -/
theorem okP (F : Fun K x qual st f fd) (S : FnScope N ps (defScope st)) (hn : ps.length ≤ N.length) (hlen : ∀ x : τ, (encl x).length = ps.length)
    (hbody : ∀ (cdv : Value) (A : Around) (outer : List Env) (s : Shared) (H Hs : Hp) (vs : List V) (Q : VK) (E : XK) (x : τ) (Rt : ρ → Int → Prop), Room k (A.deeper (envOfC qual (defScope st) s.heap.objs.size f cdv)) → (A.deeper (envOfC qual (defScope st) s.heap.objs.size f cdv)).guards = some [] → m x 0 Rt →
      OkS ⟨C, Hs, H, none⟩ (env0 N.length (encl x)) 0 (start N vs) Hs H → RtOk ⟨C, Hs, H, none⟩ Rt Q →
      ∃ t, PSs (cxOf CX0 P w K mg base N qual (defScope st) f cdv A outer s H E).nox (defBody st) t ∧ t { nx := fun _ H' => Q .non H', rt := Q } (start N vs) H) : FnG P w K mg base CX0 (k + 1) f fd ps (spP C m) := by
  refine WH.Fun.okG F S (fun vs H Q E h => ?_) (fun cdv A outer s H vs Q E hr hG h => ?_)
  · obtain ⟨x, Hs, Qd, h1, _⟩ := h
    rw [h1.len, hlen]
  · obtain ⟨x, Hs, Qd, h1, h2, h3, h4⟩ := h
    refine hbody cdv A outer s H Hs vs Q E x _ hr hG h3 (ok_start h1 h2 (by rw [h1.len, hlen]; exact hn)) fun r n' v env' σ' Hs' H' q kk rr => h4 r v Hs' H' q (fun a o e => kk.keep a o (fun z => nomatch z) e) kk.mono kk.sub kk.frsh rr
theorem okPN (F : Fun K x qual st f fd) (S : FnScope N ps (defScope st)) (hn : ps.length ≤ N.length) (hlen : ∀ x : τ, (encl x).length = ps.length)
    (hbody : ∀ (cdv : Value) (A : Around) (outer : List Env) (s : Shared) (H Hs : Hp) (vs : List V) (Q : VK) (E : XK) (x : τ) (Rt : List ρ → Int → Prop), Room k (A.deeper (envOfC qual (defScope st) s.heap.objs.size f cdv)) → (A.deeper (envOfC qual (defScope st) s.heap.objs.size f cdv)).guards = some [] → ml x 0 Rt →
      OkS ⟨C, Hs, H, none⟩ (env0 N.length (encl x)) 0 (start N vs) Hs H → RtNew ⟨C, Hs, H, none⟩ Rt Q →
      ∃ t, PSs (cxOf CX0 P w K mg base N qual (defScope st) f cdv A outer s H E).nox (defBody st) t ∧ t { nx := fun _ H' => Q .non H', rt := Q } (start N vs) H) : FnG P w K mg base CX0 (k + 1) f fd ps (spPN C ml) := by
  refine WH.Fun.okG F S (fun vs H Q E h => ?_) (fun cdv A outer s H vs Q E hr hG h => ?_)
  · obtain ⟨x, Hs, Qd, h1, _⟩ := h
    rw [h1.len, hlen]
  · obtain ⟨x, Hs, Qd, h1, h2, h3, h4⟩ := h
    refine hbody cdv A outer s H Hs vs Q E x _ hr hG h3 (ok_start h1 h2 (by rw [h1.len, hlen]; exact hn)) fun r n' a us env' σ' Hs' H' q kk h0 hs ha rr => h4 r a us Hs' H' q (fun a o e => kk.keep a o (fun z => nomatch z) e) kk.mono kk.sub kk.frsh h0 hs ha rr
theorem okL (F : Fun K x qual st f fd) (S : FnScope N ps (defScope st)) (hn : ps.length ≤ N.length) (hlen : ∀ x : τ, (encl x).length + 1 = ps.length)
    (hbody : ∀ (cdv : Value) (A : Around) (outer : List Env) (s : Shared) (H Hs : Hp) (p : Addr) (vs : List V) (Q : VK) (E : XK) (x : τ) (n : Int) (Rt : ρ → Int → Prop), Room k (A.deeper (envOfC qual (defScope st) s.heap.objs.size f cdv)) → (A.deeper (envOfC qual (defScope st) s.heap.objs.size f cdv)).guards = some [] → m x n Rt →
      OkS ⟨C, Hs, H, some p⟩ (env0L N.length (encl x)) n (start N (.ref p :: vs)) Hs H → RtOk ⟨C, Hs, H, some p⟩ Rt Q →
      ∃ t, PSs (cxOf CX0 P w K mg base N qual (defScope st) f cdv A outer s H E).nox (defBody st) t ∧ t { nx := fun _ H' => Q .non H', rt := Q } (start N (.ref p :: vs)) H) : FnG P w K mg base CX0 (k + 1) f fd ps (spL C m) := by
  refine WH.Fun.okG F S (fun vs H Q E h => ?_) (fun cdv A outer s H vs Q E hr hG h => ?_)
  · obtain ⟨p, us, x, Hs, n, Qd, rfl, h1, _⟩ := h
    rw [List.length_cons, h1.len, hlen]
  · obtain ⟨p, us, x, Hs, n, Qd, rfl, h1, h2, h3, h4, h5, h6⟩ := h
    refine hbody cdv A outer s H Hs p us Q E x n _ hr hG h5 (ok_startL h1 h2 h3 h4 (by rw [h1.len, hlen]; exact hn)) fun r n' v env' σ' Hs' H' q kk rr => h6 r n' v Hs' H' q (fun a o ne e => kk.keep a o (fun z => ne (Option.some.inj z)) e) kk.mono kk.sub kk.frsh (kk.pool p rfl).1 rr
theorem okLN (F : Fun K x qual st f fd) (S : FnScope N ps (defScope st)) (hn : ps.length ≤ N.length) (hlen : ∀ x : τ, (encl x).length + 1 = ps.length)
    (hbody : ∀ (cdv : Value) (A : Around) (outer : List Env) (s : Shared) (H Hs : Hp) (p : Addr) (vs : List V) (Q : VK) (E : XK) (x : τ) (n : Int) (Rt : List ρ → Int → Prop), Room k (A.deeper (envOfC qual (defScope st) s.heap.objs.size f cdv)) → (A.deeper (envOfC qual (defScope st) s.heap.objs.size f cdv)).guards = some [] → ml x n Rt →
      OkS ⟨C, Hs, H, some p⟩ (env0L N.length (encl x)) n (start N (.ref p :: vs)) Hs H → RtNew ⟨C, Hs, H, some p⟩ Rt Q →
      ∃ t, PSs (cxOf CX0 P w K mg base N qual (defScope st) f cdv A outer s H E).nox (defBody st) t ∧ t { nx := fun _ H' => Q .non H', rt := Q } (start N (.ref p :: vs)) H) : FnG P w K mg base CX0 (k + 1) f fd ps (spLN C ml) := by
  refine WH.Fun.okG F S (fun vs H Q E h => ?_) (fun cdv A outer s H vs Q E hr hG h => ?_)
  · obtain ⟨p, us, x, Hs, n, Qd, rfl, h1, _⟩ := h
    rw [List.length_cons, h1.len, hlen]
  · obtain ⟨p, us, x, Hs, n, Qd, rfl, h1, h2, h3, h4, h5, h6⟩ := h
    refine hbody cdv A outer s H Hs p us Q E x n _ hr hG h5 (ok_startL h1 h2 h3 h4 (by rw [h1.len, hlen]; exact hn)) fun r n' a us env' σ' Hs' H' q kk h0 hs ha rr => h6 r n' a us Hs' H' q (fun a o ne e => kk.keep a o (fun z => ne (Option.some.inj z)) e) kk.mono kk.sub kk.frsh (kk.pool p rfl).1 h0 hs ha rr
end
end WH
namespace WH
open PySem PySem.Spec PyProof.Rows L2
open Enc (enc)
open EncL (encl)
section
variable {f : Fr} {env : DE} {α β γ δ ρ τ S : Type} [Enc α] [Enc β] [Enc γ] [Enc δ] [Enc ρ] [EncL τ] {ta tb tc td te : TE} {tt uu : TT} {tas : TA} {ti : TI} {g : TG} {E : XK} {D : Ends} {n n' : Int} {σ : Sl} {Hs H : Hp}
def ownFree (env : DE) (vs : List Nat) : Bool := vs.all fun j => match env[j]? with
  | some (some (.ow _)) => false
  | some (some (.ob _)) => false
  | some (some (.nst _ _ _ _)) => false
  | some (some (.om _ _)) => false
  | _ => true
theorem noOwnB {vs : List Nat} (h : ownFree env vs = true) : ∀ j ∈ vs, ∀ e, env[j]? = some e → isOw e = false := by
  intro j hj e he
  unfold ownFree at h
  have := List.all_eq_true.mp h j hj
  rw [he] at this
  match e, this with
  | none, _ => rfl
  | some (.sh d), _ => rfl
  | some .pl, _ => rfl
  | some (.xn _ _ _), _ => rfl
  | some (.gh _), _ => rfl
theorem et_yes : EtM f tYes env (ret true) := fun n σ Hs H k Qd q Q w => w true n Hs H q k .refl
theorem ev_neg {m : M Int} (ha : EvM f te env m) : EvM f (tUn (rU fun i => .int (-i)) te) env (bnd m fun a => ret (-a)) := fun n σ Hs H k Qd q Q w =>
  ha n σ Hs H k _ q _ fun a n1 v Hs1 H1 q1 k1 s1 r1 => by
    rw [rep_int r1]
    exact ⟨a, rfl, w _ n1 _ Hs1 H1 q1 k1 s1 (.int _)⟩
abbrev getM {α : Type} (o : Option α) : M α := fun n Q => ∃ a, o = some a ∧ Q a n
theorem ev_get {m : M (Option α)} (ha : EvM f te env m) : EvM f te env (bnd m getM) := fun n σ Hs H k Qd q Q w =>
  ha n σ Hs H k _ q _ fun o n1 v Hs1 H1 q1 k1 s1 r1 => by
    obtain ⟨a, rfl, q1⟩ := q1
    exact w a n1 v Hs1 H1 q1 k1 s1 r1
theorem ev_abs {m : M Int} (ha : EvM f ta env m) : EvM f (tCB (fun xs H Q => ∃ i, xs = [.int i] ∧ Q (.int (if i < 0 then -i else i)) H) (tCons ta tNil)) env (bnd m fun a => ret (if a < 0 then -a else a)) :=
  ev_cb1 (mr := fun (a : Int) => ret (if a < 0 then -a else a)) (fun x a n σ Hs H k rx Qd q Q w => by
    rw [rep_int rx]
    exact ⟨a, rfl, w _ n _ Hs H q k .refl (.int _)⟩) ha
theorem ev_max2 {ma mb : M Int} (ha : EvM f ta env ma) (hb : EvM f tb env mb) : EvM f (tCB (fun xs H Q => ∃ i j, xs = [.int i, .int j] ∧ Q (.int (if j > i then j else i)) H) (tCons ta (tCons tb tNil))) env (bnd ma fun a => bnd mb fun b => ret (if b > a then b else a)) := fun n σ Hs H k Qd q Q w =>
  ha n σ Hs H k _ q _ fun a n1 x Hs1 H1 q1 k1 s1 r1 => hb n1 σ Hs1 H1 k1 _ q1 _ fun b n2 y Hs2 H2 q2 k2 s2 r2 => by
    rw [rep_int r1, rep_int r2]
    exact ⟨a, b, rfl, w _ n2 _ Hs2 H2 q2 k2 (s1.trans s2) (.int _)⟩
theorem ev_min2 {ma mb : M Int} (ha : EvM f ta env ma) (hb : EvM f tb env mb) : EvM f (tCB (fun xs H Q => ∃ i j, xs = [.int i, .int j] ∧ Q (.int (if j < i then j else i)) H) (tCons ta (tCons tb tNil))) env (bnd ma fun a => bnd mb fun b => ret (if b < a then b else a)) := fun n σ Hs H k Qd q Q w =>
  ha n σ Hs H k _ q _ fun a n1 x Hs1 H1 q1 k1 s1 r1 => hb n1 σ Hs1 H1 k1 _ q1 _ fun b n2 y Hs2 H2 q2 k2 s2 r2 => by
    rw [rep_int r1, rep_int r2]
    exact ⟨a, b, rfl, w _ n2 _ Hs2 H2 q2 k2 (s1.trans s2) (.int _)⟩
theorem ev_max1 {m : M (List Int)} (ha : ElM f ta env m) : EvM f (tCB (rMax f.C.k) (tCons ta tNil)) env (bnd m fun ns => fun n Q => 0 < ns.length ∧ ∀ m, m ∈ ns → (∀ y, y ∈ ns → y ≤ m) → Q m n) :=
  ev_cbL (mr := fun (ns : List Int) => fun n Q => 0 < ns.length ∧ ∀ m, m ∈ ns → (∀ y, y ∈ ns → y ≤ m) → Q m n) (fun p vs a n σ Hs H k h1 h2 Qd q Q w => by
    rw [repL_int h2] at h1
    exact ⟨p, a, rfl, SqL.of h1, q.1, fun m h3 h4 => w m n _ Hs H (q.2 m h3 h4) k .refl (.int _)⟩) ha
theorem ev_min1 {m : M (List Int)} (ha : ElM f ta env m) : EvM f (tCB (rMin f.C.k) (tCons ta tNil)) env (bnd m fun ns => fun n Q => 0 < ns.length ∧ ∀ m, m ∈ ns → (∀ y, y ∈ ns → m ≤ y) → Q m n) :=
  ev_cbL (mr := fun (ns : List Int) => fun n Q => 0 < ns.length ∧ ∀ m, m ∈ ns → (∀ y, y ∈ ns → m ≤ y) → Q m n) (fun p vs a n σ Hs H k h1 h2 Qd q Q w => by
    rw [repL_int h2] at h1
    exact ⟨p, a, rfl, SqL.of h1, q.1, fun m h3 h4 => w m n _ Hs H (q.2 m h3 h4) k .refl (.int _)⟩) ha
/-! texts' methods -/
theorem ev_bm1 {r : V → List V → Hp → VK → Prop} {ma : M Str} {mb : M β} {mr : Str → β → M γ} (hr : ∀ z y a b n σ Hs H, OkS f env n σ Hs H → z = V.str a → Rep f.C Hs y (enc b) → ∀ Qd, mr a b n Qd → ∀ Q : VK,
      (∀ c n' v Hs' H', Qd c n' → OkS f env n' σ Hs' H' → Ext f Hs H Hs' H' → Rep f.C Hs' v (enc c) → Q v H') → r z [y] H Q) (ha : EvM f ta env ma) (hb : EvM f tb env mb) :
    EvM f (tBM f.C.k "str" r ta (tCons tb tNil)) env (bnd ma fun a => bnd mb fun b => mr a b) := fun n σ Hs H k Qd q Q w =>
  ha n σ Hs H k _ q _ fun a n1 x Hs1 H1 q1 k1 s1 r1 => by
    rw [rep_str r1]
    exact ⟨rfl, hb n1 σ Hs1 H1 k1 _ q1 _ fun b n2 y Hs2 H2 q2 k2 s2 r2 => hr _ y a b n2 σ Hs2 H2 k2 rfl r2 _ q2 Q fun c n3 v Hs3 H3 q3 k3 s3 r3 => w c n3 v Hs3 H3 q3 k3 ((s1.trans s2).trans s3) r3⟩
theorem ev_startswith {ma mb : M Str} (ha : EvM f ta env ma) (hb : EvM f tb env mb) : EvM f (tBM f.C.k "str" (fun x xs H Q => ∃ a b, x = .str a ∧ xs = [.str b] ∧ Q (.bl (Txt.startswith a b)) H) ta (tCons tb tNil)) env (bnd ma fun a => bnd mb fun b => ret (Txt.startswith a b)) :=
  ev_bm1 (mr := fun (a b : Str) => ret (Txt.startswith a b)) (fun z y a b n σ Hs H k ez ry Qd q Q w => by
    rw [rep_str ry]
    exact ⟨a, b, ez, rfl, w _ n _ Hs H q k .refl (.bl _)⟩) ha hb
theorem ev_endswith {ma mb : M Str} (ha : EvM f ta env ma) (hb : EvM f tb env mb) : EvM f (tBM f.C.k "str" (fun x xs H Q => ∃ a b, x = .str a ∧ xs = [.str b] ∧ Q (.bl (Txt.endswith a b)) H) ta (tCons tb tNil)) env (bnd ma fun a => bnd mb fun b => ret (Txt.endswith a b)) :=
  ev_bm1 (mr := fun (a b : Str) => ret (Txt.endswith a b)) (fun z y a b n σ Hs H k ez ry Qd q Q w => by
    rw [rep_str ry]
    exact ⟨a, b, ez, rfl, w _ n _ Hs H q k .refl (.bl _)⟩) ha hb
theorem ev_startswith3 {ma mb : M Str} {mi : M Int} (ha : EvM f ta env ma) (hb : EvM f tb env mb) (hc : EvM f tc env mi) : EvM f (tBM f.C.k "str" (fun x xs H Q => ∃ (a b : Str) (i : Int), x = .str a ∧ xs = [.str b, .int i] ∧ Q (.bl (Txt.startswith3 a b i)) H) ta (tCons tb (tCons tc tNil))) env
    (bnd ma fun a => bnd mb fun b => bnd mi fun i => ret (Txt.startswith3 a b i)) := fun n σ Hs H k Qd q Q w =>
  ha n σ Hs H k _ q _ fun a n1 x Hs1 H1 q1 k1 s1 r1 => by
    rw [rep_str r1]
    refine ⟨rfl, hb n1 σ Hs1 H1 k1 _ q1 _ fun b n2 y Hs2 H2 q2 k2 s2 r2 => hc n2 σ Hs2 H2 k2 _ q2 _ fun i n3 z Hs3 H3 q3 k3 s3 r3 => ?_⟩
    rw [rep_str r2, rep_int r3]
    exact ⟨a, b, i, rfl, rfl, w _ n3 _ Hs3 H3 q3 k3 ((s1.trans s2).trans s3) (.bl _)⟩
theorem en_split {ma mb : M Str} (ha : EvM f ta env ma) (hb : EvM f tb env mb) : EnM f (tM1 (fun x xs H Q => ∃ a b, x = .str a ∧ xs = [.str b] ∧ (b.length == 0) = false ∧ a.length + 2 ≤ sizeLine ∧ rNewStrs (Txt.split a b) H Q) ta tb) env
    (bnd ma fun a => bnd mb fun b => need ((b.length == 0) = false ∧ a.length + 2 ≤ sizeLine) (ret (Txt.split a b))) := fun n σ Hs H k Qd q Q w =>
  ha n σ Hs H k _ q _ fun a n1 x Hs1 H1 q1 k1 s1 r1 => ⟨⟨a, rep_str r1⟩, hb n1 σ Hs1 H1 k1 _ q1 _ fun b n2 y Hs2 H2 q2 k2 s2 r2 => by
    rw [rep_str r2]
    refine ⟨a, b, rep_str r1, rfl, q2.1.1, q2.1.2, fun p np => ?_⟩
    obtain ⟨k3, nw, x3⟩ := k2.newU (vs := (Txt.split a b).map V.str) np
    exact w _ n2 p _ Hs2 _ q2.2 k3 ((s1.trans s2).trans x3) (nw.back (s1.trans s2)) rep_strs⟩
theorem ev_ninC {ma mb : M Str} (ha : EvM f ta env ma) (hb : EvM f tb env mb) : EvM f (tOp (fun x y H Q => ∃ (c : Nat) (z : Str), x = .str ⟨#[c]⟩ ∧ y = .str z ∧ Q (.bl (!decide (c ∈ z.cps.toList))) H) ta tb) env
    (bnd ma fun a => bnd mb fun b => fun n Q => ∃ c, a = ⟨#[c]⟩ ∧ Q (!decide (c ∈ b.cps.toList)) n) :=
  ev_bin (mr := fun a b => fun n Q => ∃ c, a = ⟨#[c]⟩ ∧ Q (!decide (c ∈ b.cps.toList)) n) (fun x y a b n σ Hs H k rx ry Qd q Q w => by
    obtain ⟨c, e, q⟩ := q
    rw [rep_str rx, rep_str ry, e]
    exact ⟨c, b, rfl, rfl, w _ n _ Hs H q k .refl (.bl _)⟩) ha hb
theorem ev_revS {m : M Str} (ha : EvM f te env m) : EvM f (tRevS te) env (bnd m fun z => need (z.length ≤ LIM) (ret (revS z))) := fun n σ Hs H k Qd q Q w =>
  ha n σ Hs H k _ q _ fun z n1 v Hs1 H1 q1 k1 s1 r1 => by
    rw [rep_str r1]
    exact ⟨z, rfl, lim_size q1.1, w _ n1 _ Hs1 H1 q1.2 k1 s1 (.str _)⟩
theorem en_revL {m : M (List α)} (ha : ElM f te env m) : EnM f (tRevL f.C.k te) env (bnd m fun xs => ret xs.reverse) := fun n σ Hs H k Qd q Q w =>
  ha n σ Hs H k _ q _ fun xs n1 p vs Hs1 H1 q1 k1 s1 np h1 r1 => by
    refine ⟨p, vs, rfl, SqL.of h1, fun l nl => ?_⟩
    obtain ⟨k2, nw, x2⟩ := k1.newU (vs := vs.reverse) nl
    refine w _ n1 l _ Hs1 _ q1 k2 (s1.trans x2) (nw.back s1) ?_
    rw [List.map_reverse]
    exact r1.rev
/-! ### what == and repr are asked of -/
mutual
def toPy : Dt → PyData
  | .non => .none
  | .bl b => .bool b
  | .int i => .int i
  | .str x => .str x
  | .lst xs => .list (toPyL xs)
  | .tup xs => .tuple (toPyL xs)
  | .stk _ => .none
  | .dic _ _ => .none
  | .dct _ _ => .none
def toPyL : List Dt → List PyData
  | [] => []
  | x :: xs => toPy x :: toPyL xs
end
mutual
def noStk : Dt → Bool
  | .stk _ => false
  | .dic _ _ => false
  | .dct _ _ => false
  | .lst xs => noStkL xs
  | .tup xs => noStkL xs
  | _ => true
def noStkL : List Dt → Bool
  | [] => true
  | x :: xs => noStk x && noStkL xs
end
mutual
theorem Rep.dp {C : CK} {H : Hp} : ∀ {d : Dt} {v : V}, Rep C H v d → noStk d = true → Dp C.k H v (toPy d)
  | .non, _, h, _ => by cases h; simp only [toPy]; exact .non
  | .bl b, _, h, _ => by cases h; simp only [toPy]; exact .bl b
  | .int i, _, h, _ => by cases h; simp only [toPy]; exact .int i
  | .str x, _, h, _ => by cases h; simp only [toPy]; exact .str x
  | .lst xs, _, h, q => by
    cases h with
    | lst h1 h2 =>
      simp only [toPy]
      simp only [noStk] at q
      exact .lst (SqL.of h1) (RepL.dp h2 q)
  | .tup xs, _, h, q => by
    cases h with
    | tup h1 h2 =>
      simp only [toPy]
      simp only [noStk] at q
      exact .tup (sqRd h1) (RepL.dp h2 q)
  | .stk ws, _, h, q => by simp [noStk] at q
  | .dic ks ws, _, h, q => by simp [noStk] at q
  | .dct mk ws, _, h, q => by simp [noStk] at q
theorem RepL.dp {C : CK} {H : Hp} : ∀ {ds : List Dt} {vs : List V}, RepL C H vs ds → noStkL ds = true → DpAll C.k H vs (toPyL ds)
  | [], _, h, _ => by cases h; simp only [toPyL]; exact .nil
  | d :: ds, _, h, q => by
    cases h with
    | cons h1 h2 =>
      simp only [noStkL, Bool.and_eq_true] at q
      simp only [toPyL]
      exact .cons (Rep.dp h1 q.1) (RepL.dp h2 q.2)
end
def okD (d : Dt) : Bool := noStk d && SeqAt.shaped (toPy d)
def eqD (d e : Dt) : Bool := PyData.eqv (toPy d) (toPy e)
def inD (d : Dt) (ds : List Dt) : Bool := ds.any fun z => eqD z d
/-- a value that stays as it is while the next one is reckoned -/
def EdM (f : Fr) {α : Type} [Enc α] (te : TE) (env : DE) (m : M α) : Prop := ∀ n σ Hs H, OkS f env n σ Hs H → ∀ Qd, m n Qd → ∀ Q : VK,
  (∀ a n' v Hs' H', Qd a n' → OkS f env n' σ Hs' H' → Ext f Hs H Hs' H' → (∀ Hs2 H2, Ext f Hs' H' Hs2 H2 → Same Hs2 H2 → Rep f.C H2 v (enc a)) → Q v H') → te σ H Q
theorem ed_ev {m : M α} (h : EvM f te env m) : EdM f te env m := fun n σ Hs H k Qd q Q w => h n σ Hs H k _ q _ fun a n1 v Hs1 H1 q1 k1 s1 r1 =>
  w a n1 v Hs1 H1 q1 k1 s1 fun Hs2 H2 x s => (r1.same x.s).same s
theorem ed_own {i : Nat} {xs : List α} (h : env[i]? = some (some (.ow (xs.map enc)))) : EdM f (tVar i) env (ret xs) := fun n σ Hs H k Qd q Q w => by
  have hi : i < σ.length := by
    have := (List.getElem?_eq_some_iff.mp h).1
    rw [k.len] at this
    exact this
  obtain ⟨a, vs, h1, h2, h3, h4, h5⟩ := k.sl i _ _ h (List.getElem?_eq_getElem hi)
  exact ⟨.ref a, by rw [List.getElem?_eq_getElem hi, h1], w xs n _ Hs H q k .refl fun Hs2 H2 x s => .lst (x.k _ _ (k.notP (.inl h3)) h4) ((h5.same x.s).same s)⟩
theorem ev_eqD {ma : M α} {mb : M β} (ha : EdM f ta env ma) (hb : EdM f tb env mb) : EvM f (tOp (rEqD f.C.k) ta tb) env (bnd ma fun a => bnd mb fun b => need (okD (enc a) = true ∧ okD (enc b) = true) (ret (eqD (enc a) (enc b)))) := fun n σ Hs H k Qd q Q w =>
  ha n σ Hs H k _ q _ fun a n1 x Hs1 H1 q1 k1 s1 r1 => hb n1 σ Hs1 H1 k1 _ q1 _ fun b n2 y Hs2 H2 q2 k2 s2 r2 => by
    obtain ⟨⟨o1, o2⟩, q3⟩ := q2
    unfold okD at o1 o2
    simp only [Bool.and_eq_true] at o1 o2
    exact ⟨_, _, (r1 Hs2 H2 s2 k2.sub).dp o1.1, (r2 Hs2 H2 .refl k2.sub).dp o2.1, o1.2, o2.2, w _ n2 _ Hs2 H2 q3 k2 (s1.trans s2) (.bl _)⟩
theorem ev_neD {ma : M α} {mb : M β} (ha : EdM f ta env ma) (hb : EdM f tb env mb) : EvM f (tOp (rNeD f.C.k) ta tb) env (bnd ma fun a => bnd mb fun b => need (okD (enc a) = true ∧ okD (enc b) = true) (ret (!eqD (enc a) (enc b)))) := fun n σ Hs H k Qd q Q w =>
  ha n σ Hs H k _ q _ fun a n1 x Hs1 H1 q1 k1 s1 r1 => hb n1 σ Hs1 H1 k1 _ q1 _ fun b n2 y Hs2 H2 q2 k2 s2 r2 => by
    obtain ⟨⟨o1, o2⟩, q3⟩ := q2
    unfold okD at o1 o2
    simp only [Bool.and_eq_true] at o1 o2
    exact ⟨_, _, (r1 Hs2 H2 s2 k2.sub).dp o1.1, (r2 Hs2 H2 .refl k2.sub).dp o2.1, o1.2, o2.2, w _ n2 _ Hs2 H2 q3 k2 (s1.trans s2) (.bl _)⟩
def shOk : Dt → Prop
  | .non => True
  | .bl _ => True
  | .int i => i.natAbs.log2 < 1920
  | .str x => (reprText x).length ≤ sizeLine
  | d => noStk d = true ∧ (toPy d).showable = true ∧ (toPy d).hasDict = false ∧ (toPy d).depth ≤ 60 ∧ (toPy d).shown.length ≤ sizeLine
def shS : Dt → Str
  | .non => "None"
  | .bl b => if b then "True" else "False"
  | .int i => toString i
  | .str x => reprText x
  | d => (toPy d).shown
theorem shw_of {C : CK} {v : V} {d : Dt} (r : Rep C H v d) (h : shOk d) : Shw C.k H v (shS d) := by
  cases d with
  | non => cases r; exact .non
  | bl b => cases r; exact .bl b
  | int i => cases r; exact .int i h
  | str x => cases r; exact .str x h
  | lst xs =>
    obtain ⟨h1, h2, h3, h4, h5⟩ := h
    cases r with
    | lst a b => exact .data _ _ (Rep.dp (.lst a b) h1) h2 h3 h4 h5
  | tup xs =>
    obtain ⟨h1, h2, h3, h4, h5⟩ := h
    cases r with
    | tup a b => exact .data _ _ (Rep.dp (.tup a b) h1) h2 h3 h4 h5
  | stk ws =>
    obtain ⟨h1, _⟩ := h
    simp [noStk] at h1
  | dic ks ws =>
    obtain ⟨h1, _⟩ := h
    simp [noStk] at h1
  | dct mk ws =>
    obtain ⟨h1, _⟩ := h
    simp [noStk] at h1
theorem ev_repr {m : M α} (ha : EdM f ta env m) : EvM f (tCB (rShow f.C.k) (tCons ta tNil)) env (bnd m fun a => need (shOk (enc a)) (ret (shS (enc a)))) := fun n σ Hs H k Qd q Q w =>
  ha n σ Hs H k _ q _ fun a n1 x Hs1 H1 q1 k1 s1 r1 => ⟨x, shS (enc a), rfl, shw_of (r1 _ _ .refl k1.sub) q1.1, w _ n1 _ Hs1 H1 q1.2 k1 s1 (.str _)⟩
theorem toPyL_map (ds : List Dt) : toPyL ds = ds.map toPy := by
  induction ds with
  | nil => rfl
  | cons d ds ih => simp only [toPyL, List.map_cons, ih]
theorem ev_inD {ma : M α} {mb : M (List β)} (ha : EdM f ta env ma) (hb : EdM f tb env mb) : EvM f (tOp (rInD f.C.k) ta tb) env (bnd ma fun a => bnd mb fun b => need (okD (enc a) = true ∧ okD (enc b) = true) (ret (inD (enc a) (b.map enc)))) := fun n σ Hs H k Qd q Q w =>
  ha n σ Hs H k _ q _ fun a n1 x Hs1 H1 q1 k1 s1 r1 => hb n1 σ Hs1 H1 k1 _ q1 _ fun b n2 y Hs2 H2 q2 k2 s2 r2 => by
    obtain ⟨⟨o1, o2⟩, q3⟩ := q2
    unfold okD at o1 o2
    simp only [Bool.and_eq_true] at o1 o2
    have d2 : Dp f.C.k H2 y (toPy (enc b)) := (r2 Hs2 H2 .refl k2.sub).dp o2.1
    have e : toPy (enc b) = .list ((b.map enc).map toPy) := by
      show toPy (.lst (b.map enc)) = _
      simp only [toPy, toPyL_map]
    refine ⟨_, (b.map enc).map toPy, (r1 Hs2 H2 s2 k2.sub).dp o1.1, by rw [← e]; exact d2, o1.2, by rw [← e]; exact o2.2, w _ n2 _ Hs2 H2 q3 k2 (s1.trans s2) ?_⟩
    have e2 : (((b.map enc).map toPy).any fun z => PyData.eqv z (toPy (enc a))) = inD (enc a) (b.map enc) := by
      unfold inD eqD
      rw [List.any_map]
      rfl
    rw [e2]
    exact .bl _
theorem ev_ninD {ma : M α} {mb : M (List β)} (ha : EdM f ta env ma) (hb : EdM f tb env mb) : EvM f (tOp (rNotInD f.C.k) ta tb) env (bnd ma fun a => bnd mb fun b => need (okD (enc a) = true ∧ okD (enc b) = true) (ret (!inD (enc a) (b.map enc)))) := fun n σ Hs H k Qd q Q w =>
  ha n σ Hs H k _ q _ fun a n1 x Hs1 H1 q1 k1 s1 r1 => hb n1 σ Hs1 H1 k1 _ q1 _ fun b n2 y Hs2 H2 q2 k2 s2 r2 => by
    obtain ⟨⟨o1, o2⟩, q3⟩ := q2
    unfold okD at o1 o2
    simp only [Bool.and_eq_true] at o1 o2
    have d2 : Dp f.C.k H2 y (toPy (enc b)) := (r2 Hs2 H2 .refl k2.sub).dp o2.1
    have e : toPy (enc b) = .list ((b.map enc).map toPy) := by
      show toPy (.lst (b.map enc)) = _
      simp only [toPy, toPyL_map]
    refine ⟨_, (b.map enc).map toPy, (r1 Hs2 H2 s2 k2.sub).dp o1.1, by rw [← e]; exact d2, o1.2, by rw [← e]; exact o2.2, w _ n2 _ Hs2 H2 q3 k2 (s1.trans s2) ?_⟩
    have e2 : (((b.map enc).map toPy).any fun z => PyData.eqv z (toPy (enc a))) = inD (enc a) (b.map enc) := by
      unfold inD eqD
      rw [List.any_map]
      rfl
    rw [e2]
    exact .bl _
theorem inV_ints (x : Int) (ws : List Int) : inV (.int x) (ws.map V.int) = decide (x ∈ ws) := by
  unfold inV
  rw [List.any_map]
  induction ws with
  | nil => simp
  | cons y r ih =>
    rw [List.any_cons, ih]
    have e : ((fun y => eqV y (V.int x)) ∘ V.int) y = decide (y = x) := by
      show eqV (V.int y) (V.int x) = _
      simp only [eqV]
      by_cases h : y = x <;> simp [h]
    rw [e]
    by_cases h : y = x <;> by_cases h2 : x ∈ r <;> simp [h, h2, eq_comm]
    all_goals (first | exact fun z => h z.symm | skip)
theorem flat_ints (ws : List Int) : (ws.map V.int).all flatV = true := by
  rw [List.all_map, List.all_eq_true]
  intro x _
  rfl
theorem ev_inI {neg : Bool} {ma : M Int} {mb : M (List Int)} (ha : EvM f ta env ma) (hb : ElM f tb env mb) : EvM f (tOp (rIn f.C.k neg) ta tb) env (bnd ma fun a => bnd mb fun b => ret (if neg then !decide (a ∈ b) else decide (a ∈ b))) :=
  ev_binR (mr := fun (a : Int) (b : List Int) => ret (if neg then !decide (a ∈ b) else decide (a ∈ b))) (fun x p vs a b n σ Hs H k rx h1 h2 Qd q Q w => by
    rw [repL_int h2] at h1
    rw [rep_int rx]
    refine ⟨p, _, rfl, .inl (SqL.of h1), rfl, flat_ints b, w _ n _ Hs H q k .refl ?_⟩
    rw [inV_ints]
    exact .bl _) ha hb
theorem go_aug {m : M Int} {Qd : Int → Int → Prop} {i : Nat} {g : Int → Int → Int} {x : Int} (ok : OkS f env n σ Hs H) (hi : env[i]? = some (some (.sh (enc x)))) (he : EvM f te env m) (hm : m n fun a n' => Qd (g x a) n')
    (w : ∀ a n' σ' Hs' H', Qd a n' → OkS f (env.set i (some (.sh (enc a)))) n' σ' Hs' H' → D.nx σ' H') : tAug i te (ipI g) D σ H := by
  have hl : i < σ.length := by
    have := (List.getElem?_eq_some_iff.mp hi).1
    rw [ok.len] at this
    exact this
  obtain ⟨u, h1, h2⟩ := ok.sl i _ _ hi (List.getElem?_eq_getElem hl)
  refine ⟨u, by rw [List.getElem?_eq_getElem hl, h1], he n σ Hs H ok _ hm _ fun a n' v Hs' H' q k s r => ?_⟩
  rw [rep_int h2, rep_int r]
  exact ⟨x, a, rfl, rfl, w _ n' _ Hs' H' q (k.setS (.int _))⟩
end
section
variable {f : Fr} {env : DE} {α β : Type} [Enc α] [Enc β] {ta te : TE} {D : Ends} {n : Int} {σ : Sl} {Hs H : Hp}
/-- any data, known to be of a kind -/
abbrev asM {α : Type} [Enc α] (d : Dt) : M α := fun n Q => ∃ x : α, d = enc x ∧ Q x n
theorem ev_asD {m : M Dt} (h : EvM f te env m) : EvM f te env (bnd m (asM (α := α))) := fun n σ Hs H k Qd q Q w =>
  h n σ Hs H k _ q _ fun d n1 v Hs1 H1 q1 k1 s1 r1 => by
    obtain ⟨x, rfl, q1⟩ := q1
    exact w x n1 v Hs1 H1 q1 k1 s1 r1
theorem ev_asL {m : M (List α)} (h : EvM f te env m) : EvM f te env (bnd m fun a => ret (a.map enc)) := ev_as (fun a : List α => (a.map enc : List Dt)) (fun a => by
  show Dt.lst ((a.map enc).map id) = Dt.lst (a.map enc)
  rw [List.map_id]) h
theorem ev_ixD {m : M Dt} {i : Nat} (ha : EvM f ta env m) : EvM f (tOp (rIxT f.C.k) ta (tC (.int i))) env (bnd m (fun d n Q => ∃ ds e, d = .tup ds ∧ ds[i]? = some e ∧ Q e n)) := fun n σ Hs H k Qd q Q w =>
  ha n σ Hs H k _ q _ fun d n1 v Hs1 H1 q1 k1 s1 r1 => by
    obtain ⟨ds, e, rfl, he, q1⟩ := q1
    obtain ⟨p, vs, rfl, h1, h2⟩ := rep_tup r1
    obtain ⟨u, e1, e2⟩ := h2.get i _ he
    exact ⟨p, vs, i, u, rfl, rfl, sqRd (rdUp h1 k1.sub), atI_nat e1, w _ n1 u Hs1 H1 q1 k1 s1 e2⟩
/-- xs.append(ys.pop(k)) -/
theorem go_appPop {m : M Int} {Qd : α → Nat → Int → Prop} {i j : Nat} {xs ys : List α} (hij : i ≠ j) (ok : OkS f env n σ Hs H) (hi : env[i]? = some (some (.ow (xs.map enc)))) (hj : env[j]? = some (some (.ow (ys.map enc)))) (he : EvM f te env m)
    (hm : m n fun k n' => ∃ q : Nat, k = q ∧ q < ys.length ∧ ys.length ≤ LIM ∧ xs.length ≤ LIM ∧ ∀ a, ys[q]? = some a → Qd a q n')
    (w : ∀ a q n' σ' Hs' H', Qd a q n' → OkS f ((env.set j (some (.ow ((ys.eraseIdx q).map enc)))).set i (some (.ow ((xs ++ [a]).map enc)))) n' σ' Hs' H' → D.nx σ' H') :
    tDrop (tBM f.C.k "list" rAppend (tVar i) (tCons (tBM f.C.k "list" rPopAt (tVar j) (tCons te tNil)) tNil)) D σ H := by
  obtain ⟨a, vs, h1, h2, h3, h4⟩ := ok.ow hi
  obtain ⟨b, us, g1, g2, g3, g4⟩ := ok.ow hj
  refine ⟨.ref a, h1, .inl ⟨rfl, _, SqL.of h2⟩, .ref b, g1, .inl ⟨rfl, _, SqL.of g2⟩, he n σ Hs H ok _ hm _ fun y n' v Hs' H' q k s r => ?_⟩
  have g2' := s.k b _ (ok.notP (.inl g4)) g2
  obtain ⟨q', ej, jl, lim, lim2, q⟩ := q
  have hl := g3.len
  have hl2 := h3.len
  rw [List.length_map] at hl hl2
  have g3' := g3.same s.s
  obtain ⟨u, e1, e2⟩ := g3'.get q' (enc ys[q']) (by rw [List.getElem?_map, List.getElem?_eq_getElem jl]; rfl)
  have jl2 : q' < us.length := by omega
  rw [rep_int r, ej]
  unfold LIM at lim
  have sx : seqIndex? (q' : Int) us.length = some q' := by
    unfold seqIndex?
    have c1 : ¬ ((q' : Int) < 0) := by omega
    simp only [c1, if_false]
    rw [if_pos (by simp; omega)]
    simp
  have k2 := k.write hj g1 (show RepL f.C Hs' (us.eraseIdx q') ((ys.eraseIdx q').map enc) from by
    rw [List.eraseIdx_eq_take_drop_succ, List.eraseIdx_eq_take_drop_succ, List.map_append, List.map_take, List.map_drop]
    exact (g3'.take q').app (g3'.drop (q' + 1)))
  have hi2 : (env.set j (some (.ow ((ys.eraseIdx q').map enc))))[i]? = some (some (.ow (xs.map enc))) := by
    rw [List.getElem?_set_ne hij.symm]
    exact hi
  refine ⟨b, us, q', q', u, rfl, rfl, g2', by omega, by omega, sx, e1, ?_⟩
  obtain ⟨a', vs', z1, z2, z3, z4⟩ := k2.ow hi2
  rw [h1] at z1
  obtain rfl : a = a' := by simpa using z1
  have hl3 := z3.len
  rw [List.length_map] at hl3
  refine ⟨a, vs', u, rfl, rfl, z2, lim_lt (by rw [hl3]; exact lim2), w _ _ n' σ Hs' _ (q _ (List.getElem?_eq_getElem jl)) (k2.write hi2 h1 ?_)⟩
  rw [List.map_append]
  exact z3.app (.cons e2 .nil)
end
/-! ### rules within a comprehension: K told -/
section
variable {X : Cx} {K : PySem.W.Frag}
theorem callK_len (h : X.K = K) : CallR X (.builtin "len") (fun xs H Q => ∃ p ys, xs = [.ref p] ∧ (SqL K H p ys ∨ SqT K H p ys) ∧ Q (.int ys.length) H) := by
  subst h
  exact call_len_seq
theorem callK_list (h : X.K = K) : CallR X (.type "list") (fun xs H Q => ∃ p ys, xs = [.ref p] ∧ (SqL K H p ys ∨ SqT K H p ys) ∧ ∀ l, H l = none → Q (.ref l) (upd H l (.lst ys))) := by
  subst h
  exact call_list_of
theorem callK_all (h : X.K = K) (hc : X.calm = true) : CallR X (.builtin "all") (rAll K) := by
  subst h
  exact cr_all hc
theorem callK_any (h : X.K = K) (hc : X.calm = true) : CallR X (.builtin "any") (rAny K) := by
  subst h
  exact cr_any hc
theorem callK_sum (h : X.K = K) (hc : X.calm = true) : CallR X (.builtin "sum") (rSum K) := by
  subst h
  exact cr_sum hc
theorem callK_max (h : X.K = K) (hc : X.calm = true) : CallR X (.builtin "max") (rMax K) := by
  subst h
  exact cr_max hc
theorem callK_min (h : X.K = K) (hc : X.calm = true) : CallR X (.builtin "min") (rMin K) := by
  subst h
  exact cr_min hc
theorem callK_sortedS (h : X.K = K) : CallR X (.builtin "sorted") (rSortedS K) := by
  subst h
  exact cr_sortedS
theorem callK_show (h : X.K = K) (hG : X.A.guards = some []) (hu : X.A.units + 64 < cLine) : CallR X (.builtin "repr") (rShow K) := by
  subst h
  exact call_show hG hu
theorem ixK_list (h : X.K = K) : IxR X (rIxL K) := by
  subst h
  exact ix_list
theorem ixK_tup (h : X.K = K) : IxR X (rIxT K) := by
  subst h
  exact ix_tup
theorem slK_list (h : X.K = K) : SlR X (rSlL K) := by
  subst h
  exact sl_list
theorem opK_in (h : X.K = K) : OpR X (compareOp .In) (rIn K false) := by
  subst h
  exact op_in_seq
theorem opK_notIn (h : X.K = K) : OpR X (compareOp .NotIn) (rIn K true) := by
  subst h
  exact op_notIn_seq
theorem opK_eqD (h : X.K = K) (hu : X.A.units + 64 < cLine) : OpR X (compareOp .Eq) (rEqD K) := by
  subst h
  exact op_eqD hu
theorem opK_neD (h : X.K = K) (hu : X.A.units + 64 < cLine) : OpR X (compareOp .NotEq) (rNeD K) := by
  subst h
  exact op_neD hu
theorem opK_inD (h : X.K = K) (hu : X.A.units + 65 < cLine) : OpR X (compareOp .In) (rInD K) := by
  subst h
  exact op_inD hu
theorem opK_notInD (h : X.K = K) (hu : X.A.units + 65 < cLine) : OpR X (compareOp .NotIn) (rNotInD K) := by
  subst h
  exact op_notInD hu
theorem peK_bm {o e : Expr} {es : List Expr} {to : TE} {t : TA} {name : Str} {apos cpos : Pos} {T id : String} {r : V → List V → Hp → VK → Prop} (h : X.K = K) (pa : PlainAttrs T) (slot : Slot T name id) (hty : typeOf (.builtin id) = pure (.type "method_descriptor")) (hm : MtR X id r) (ho : PE X o to) (ha : PA X (e :: es) t)
    (hbase : attributeBase o name X.env (eval o X.env) = eval o X.env := by rfl)
    (hfew : ((backTo cpos (starEach (e :: es) X.env)).all (fun x => !x.1) && (backToKw cpos (keywordEach [] X.env)).all (fun x => x.1.isSome)
      && decide ((e :: es).length + ([] : List Keyword).length + (if ([] : List Keyword).isEmpty then 0 else 1) < 30)) = true := by rfl)
    (hline : (apos.endLine == cpos.line) = true := by rfl) (hs : starEach (e :: es) X.env = (false, eval e X.env) :: starEach es X.env := by rfl) (hplain : (backTo cpos (starEach es X.env)).any (·.1) = false := by rfl) :
    PE X (.Call (.Attribute o name apos) (e :: es) [] cpos) (tBM K T r to t) := by
  subst h
  exact pe_bm pa slot hty hm ho ha hbase hfew hline hs hplain
theorem peK_bm0 {o : Expr} {to : TE} {name : Str} {apos cpos : Pos} {T id : String} {r : V → List V → Hp → VK → Prop} (h : X.K = K) (pa : PlainAttrs T) (slot : Slot T name id) (hty : typeOf (.builtin id) = pure (.type "method_descriptor")) (hm : MtR X id r) (ho : PE X o to)
    (hbase : attributeBase o name X.env (eval o X.env) = eval o X.env := by rfl) (hline : (apos.endLine == cpos.line) = true := by rfl) : PE X (.Call (.Attribute o name apos) [] [] cpos) (tBM0 K T r to) := by
  subst h
  exact pe_bm0 pa slot hty hm ho hbase hline
theorem piK_list {tg l : Expr} {tl : TE} (h : X.K = K) (hl : PE X l tl) : PI X tg l (iList K tl) := by
  subst h
  exact pi_list hl
theorem piK_tup {tg l : Expr} {tl : TE} (h : X.K = K) (hl : PE X l tl) : PI X tg l (iTup K tl) := by
  subst h
  exact pi_tup hl
theorem piK_enum {e : Expr} {ta : TA} {p pos tpos : Pos} {elts : List Expr} {kk : Nat} (h : X.K = K) (hg : Gl X "enumerate") (hm : X.mg "enumerate" = none) (ha : PA X [e] ta) (hs : starEach [e] X.env = [(false, eval e X.env)] := by rfl) :
    PI X (.Tuple elts kk tpos) (.Call (.Name "enumerate" p) [e] [] pos) (iEnum K ta) := by
  subst h
  exact pi_enum hg hm ha hs
theorem piK_zip {e e2 : Expr} {ta : TA} {p pos tpos : Pos} {elts : List Expr} {kk : Nat} (h : X.K = K) (hg : Gl X "zip") (hm : X.mg "zip" = none) (ha : PA X [e, e2] ta)
    (hs : starEach [e, e2] X.env = (false, eval e X.env) :: starEach [e2] X.env := by rfl) (hpl : (backTo pos (starEach [e2] X.env)).any (·.1) = false := by rfl) :
    PI X (.Tuple elts kk tpos) (.Call (.Name "zip" p) [e, e2] [] pos) (iZip K ta) := by
  subst h
  exact pi_zip hg hm ha hs hpl
theorem pgK_tup {es : List Expr} {k : Nat} {pos : Pos} {t : TGs} {n : Nat} (h' : X.K = K) (hc : X.calm = true) (h : PGs X es t)
    (hn : (assignEach es X.env).length = n := by rfl) (hst : (assignEach es X.env).findIdx? (·.1) = none := by rfl) : PG X (.Tuple es k pos) (gTup K n t) := by
  subst h'
  exact pg_tup hc h hn hst
theorem peK_revL {e : Expr} {te : TE} {k : Nat} {p1 p2 p3 pos : Pos} (h : X.K = K) (he : PE X e te) : PE X (.Subscript e (.Slice none none (some (.UnaryOp .USub (.Constant (.int 1) k p1) p2)) p3) pos) (tRevL K te) := by
  subst h
  exact pe_revL he
variable {o e : Expr} {to te : TE}
theorem peK_join {apos pos : Pos} (h : X.K = K) (ho : PE X o to) (he : PE X e te) (hs : starEach [e] X.env = [(false, eval e X.env)] := by rfl) (hbase : attributeBase o "join" X.env (eval o X.env) = eval o X.env := by rfl) (hline : (apos.endLine == pos.line) = true := by rfl) :
    PE X (.Call (.Attribute o "join" apos) [e] [] pos) (tM1 (fun x xs H Q => ∃ a p, ∃ ys : List Str, x = .str a ∧ xs = [.ref p] ∧ (SqL K H p (ys.map V.str) ∨ SqT K H p (ys.map V.str)) ∧
      (ys.map (·.length)).sum + ys.length * a.length ≤ 16777216 ∧ Q (.str (Txt.join a ys)) H) to te) := by
  subst h
  exact pe_join ho he hs hbase hline
end
/-! ### a def called where no repr runs, by name -/
section
variable {X : Cx} {CX : CXT} {k : Nat} {f : Addr} {fd : FuncData} {ps ks : List Str} {sp : Sp} {E : XK} {x : Str} {p pos : Pos} {kws : List Keyword} {tk : TA} {g : List Value → List Value → List Value} {gV : List V → List V → List V}
theorem pe_callGK0 (F : FnG X.prog X.w X.K X.mg X.base CX k f fd ps sp) (hr : Room k X.A) (hG : X.A.guards = some []) (hg : Gl X x) (hm : X.mg x = some (.ref f)) (hk : PySem.W.keepIn X.K (.ref f) = true) (hb : KBinds X.K fd ps ks g gV) (hx : Passes CX X E)
    (hkw : PK X kws tk) (hall : (backToKw pos (keywordEach kws X.env)).all (·.1.isSome) = true := by rfl) (hks : (backToKw pos (keywordEach kws X.env)).filterMap (·.1) = ks := by rfl)
    (hdb : (x == ("__debug__" : Str)) = false := by decide) 
    (hpl : ((backTo pos (starEach [] X.env)).any (·.1) || (backToKw pos (keywordEach kws X.env)).any (·.1.isNone)) = false := by rfl) :
    PE X (.Call (.Name x p) [] kws pos) (tCallK sp gV E tNil tk) := by
  refine ⟨fun pins s σ H Q I h => ?_⟩
  refine wpAny_Call_Name_kw (ld_glob I hg hm ?_ hdb)
  refine PySem.W.callWith_KW0 (h₀ := X.base) I.ok.mod.kin hk hall ?_ hpl
  refine thn (hkw.run pos pins s σ H _ I h) fun ws s2 ⟨zs, H2, I2, rz, q2⟩ => ⟨I2.kIn, ?_⟩
  rw [hks]
  have r2 := hb.rel .nil rz
  have hl : (g [] ws).length = ps.length := by rw [← r2.length]; exact F.len _ _ _ _ q2
  refine wpAny_call (codeAny_mono (F.run X.A X.stack s2 H2 ⟨[], ks.zip ws⟩ (g [] ws) (gV [] zs) Q E hr hG I2.env0 (hb.to s2 [] ws I2.kIn hl) r2 q2) fun r s' hq => ?_)
  cases r with
  | error e => exact hx pins σ H2 s2 e s' I2 hq
  | ok fl =>
    cases fl with
    | ret u => exact I2.after hq
    | next => exact False.elim hq
    | brk => exact False.elim hq
    | cont => exact False.elim hq
theorem FnG.ofOk {P : Program} {w : World} {K : PySem.W.Frag} {mg : Str → Option Value} {base : Heap} (F : FnOk P w K mg base CX k f fd ps sp) : FnG P w K mg base CX k f fd ps sp :=
  ⟨F.len, fun A outer s H args us vs Q E hr _ => F.run A outer s H args us vs Q E hr⟩
/-- a def as its callers need it -/
structure CalG (P : Program) (w : World) (K : PySem.W.Frag) (mg : Str → Option Value) (base : Heap) (k : Nat) (x : Str) (ps : List Str) (sp : Sp) (f : Addr) (fd : FuncData) : Prop where
  G : FnG P w K mg base CX0 k f fd ps sp
  b : Binds K fd ps []
  k : PySem.W.keepIn K (.ref f) = true
  g : mg x = some (.ref f)
end
/-- built-ins that nothing hides -/
structure BuA (mg : Str → Option Value) : Prop where
  len : mg "len" = none
  max : mg "max" = none
  min : mg "min" = none
  abs : mg "abs" = none
  int : mg "int" = none
  range : mg "range" = none
  all : mg "all" = none
  any : mg "any" = none
  sum : mg "sum" = none
  list : mg "list" = none
  tuple : mg "tuple" = none
  set : mg "set" = none
  sorted : mg "sorted" = none
  enumerate : mg "enumerate" = none
  zip : mg "zip" = none
  reversed : mg "reversed" = none
  repr : mg "repr" = none
  isinstance : mg "isinstance" = none
theorem dunit {k : Nat} {A : Around} (h : Room k A) : A.units + 65 < cLine := by
  have := h.un
  omega
/-! ### stocks -/
structure Good (ws : List Str) : Prop where
  w : ∀ x ∈ ws, isW x = true
  nd : ws.Nodup
  lo : 1 ≤ ws.length
  hi : ws.length ≤ 8
def spSInit (K : PySem.W.Frag) (C : Addr) : Sp := fun vs H Q _ => ∃ (p dx a : Addr) (ws : List Str), vs = [.ref p, .ref a] ∧ H p = some (.ins C dx []) ∧ SqL K H a (ws.map V.str) ∧ Good ws ∧
  ∀ H' t, H t = none → H' p = some (.ins C dx (fW t)) → H' t = some (.tup (ws.map V.str)) → (∀ b o, H b = some o → b ≠ p → H' b = some o) → Q .non H'
def spSWords (C : Addr) : Sp := fun vs H Q _ => ∃ (p : Addr) (ws : List Str), vs = [.ref p] ∧ StkAt C H p ws ∧ ∀ l H', H l = none → Same H H' → H' l = some (.lst (ws.map V.str)) → Q (.ref l) H'
section
variable {f : Fr} {env : DE} {ta : TE} {K : PySem.W.Frag} {E : XK}
theorem mkS {C a : Addr} {ws : List Str} {H : Hp} {Q : VK} (hS : SqL K H a (ws.map V.str)) (g : Good ws) (q : ∀ x t dx H', H x = none → H t = none → Same H H' → H' x = some (.ins C dx (fW t)) → H' t = some (.tup (ws.map V.str)) → Q (.ref x) H') :
    ∀ x dx, H x = none → H dx = none → dx ≠ x → spSInit K C [.ref x, .ref a] (upd (upd H dx (.own x)) x (.ins C dx [])) (fun v H2 => v = .non ∧ Q (.ref x) H2) E := by
  intro x dx nx ndx nex
  have s0 : Same H (upd (upd H dx (.own x)) x (.ins C dx [])) := same_set (same_upd ndx) nx
  refine ⟨x, dx, a, ws, rfl, upd_same, s0.seq hS, g, fun H' t nt h1 h2 kp => ⟨rfl, q x t dx H' nx ?_ (fun b o e => kp b o (s0 b o e) (ne_of_none e nx)) h1 h2⟩⟩
  cases e : H t with
  | none => rfl
  | some o =>
    rw [s0 t o e] at nt
    cases nt
/-- a stock told by a heap in which what was known stays -/
theorem stk_new {n : Int} {σ : Sl} {Hs H H' : Hp} {x t dx : Addr} {ws : List Str} (k : OkS f env n σ Hs H) (nx : H x = none) (nt : H t = none) (s : Same H H') (h1 : H' x = some (.ins f.C dx (fW t))) (h2 : H' t = some (.tup (ws.map V.str))) :
    ∃ Hs', OkS f env n σ Hs' H' ∧ Ext f Hs H Hs' H' ∧ Rep f.C Hs' (.ref x) (enc (Stk.mk ws)) := by
  let Hs' : Hp := fun b => if H b = none then H' b else Hs b
  have s1 : Same Hs Hs' := fun b o e => by
    show (if H b = none then H' b else Hs b) = some o
    rw [if_neg (by rw [k.sub b o e]; exact Option.some_ne_none _)]
    exact e
  have s2 : Same Hs' H' := fun b o e => by
    have e : (if H b = none then H' b else Hs b) = some o := e
    by_cases z : H b = none
    · rw [if_pos z] at e
      exact e
    · rw [if_neg z] at e
      exact s b o (k.sub b o e)
  have ex : Ext f Hs H Hs' H' := .same k s s1 fun a o _ e nn => by
    show (if H a = none then H' a else Hs a) = none
    rw [if_neg (by rw [e]; exact Option.some_ne_none _)]
    exact nn
  refine ⟨Hs', k.ext ex s2 fun p hp => (k.pool p hp).1.same s, ex, .stk ⟨dx, t, ?_, ?_⟩⟩
  · show (if H x = none then H' x else Hs x) = _
    rw [if_pos nx]
    exact h1
  · show (if H t = none then H' t else Hs t) = _
    rw [if_pos nt]
    exact h2
theorem ev_stock {m : M (List Str)} (ha : ElM f ta env m) : EvM f (tMake f.C (spSInit K f.C) [] E (tCons ta tNil)) env (bnd m fun ws => need (Good ws) (ret (Stk.mk ws))) := fun n σ Hs H k Qd q Q w =>
  ha n σ Hs H k _ q _ fun ws n1 p vs Hs1 H1 q1 k1 s1 np h1 r1 => by
    rw [repL_str r1] at h1
    refine mkS (SqL.of h1) q1.1 fun x t dx H' nx nt s a1 a2 => ?_
    obtain ⟨Hs', k2, x2, r2⟩ := stk_new k1 nx nt s a1 a2
    exact w _ n1 _ Hs' H' q1.2 k2 (s1.trans x2) r2
theorem ev_stockK {m : M (List Str)} (ha : ElM f ta env m) : EvM f (tMakeK f.C 0 1 (spSInit K f.C) (fun us ws => us ++ ws) E tNil (tCons ta tNil)) env (bnd m fun ws => need (Good ws) (ret (Stk.mk ws))) := fun n σ Hs H k Qd q Q w =>
  ha n σ Hs H k _ q _ fun ws n1 p vs Hs1 H1 q1 k1 s1 np h1 r1 => by
    rw [repL_str r1] at h1
    refine ⟨rfl, rfl, mkS (SqL.of h1) q1.1 fun x t dx H' nx nt s a1 a2 => ?_⟩
    obtain ⟨Hs', k2, x2, r2⟩ := stk_new k1 nx nt s a1 a2
    exact w _ n1 _ Hs' H' q1.2 k2 (s1.trans x2) r2
theorem en_words {m : M Stk} (ha : EvM f ta env m) : EnM f (tProp f.C (spSWords f.C) [] E ta) env (bnd m fun s => ret s.ws) := fun n σ Hs H k Qd q Q w =>
  ha n σ Hs H k _ q _ fun st n1 v Hs1 H1 q1 k1 s1 r1 => by
    obtain ⟨a, rfl, h⟩ := rep_stk r1
    have h2 := h.same k1.sub
    obtain ⟨dx, t, e1, e2⟩ := id h2
    refine ⟨a, dx, _, rfl, e1, a, st.ws, rfl, h2, fun l H' nl s hl => ?_⟩
    have x2 : Ext f Hs1 H1 Hs1 H' := .same k1 s (Same.refl _) fun _ _ _ _ e => e
    exact w st.ws n1 l _ Hs1 H' q1 (k1.ext x2 (k1.sub.trans s) fun p hp => (k1.pool p hp).1.same s) (s1.trans x2) ⟨hl, k1.hs nl, k1.h0 nl, k1.own_ne nl, s1.t l nl⟩ rep_strs
end
/-! ### by name: in another sequence -/
def gAll (k : Nat) {α : Type} (us ws : List α) : List α := if us.length = 0 ∧ ws.length = k then ws else []
theorem gAll_rel (k : Nat) {vs : List V} {us : List Value} {zs : List V} {ws : List Value} (h1 : Vals vs us) (h2 : Vals zs ws) : Vals (gAll k vs zs) (gAll k us ws) := by
  unfold gAll
  rw [h1.length, h2.length]
  split
  · exact h2
  · exact .nil
theorem gAll_spec {k : Nat} {α : Type} {us ws : List α} (hk : 0 < k) (h : (gAll k us ws).length = k) : us = [] ∧ ws.length = k := by
  unfold gAll at h
  split at h
  · rename_i q
    exact ⟨List.length_eq_zero_iff.mp q.1, q.2⟩
  · simp at h
    omega
theorem rp_all {τ : Type} [EncL τ] {k : Nat} (hk : ∀ x : τ, (encl x).length = k) (C : CK) (H : Hp) (vs : List V) (x : τ) (h : RepL C H vs (encl x)) : RepL C H (gAll k [] vs) (encl x) := by
  unfold gAll
  rw [if_pos ⟨rfl, by rw [h.len, hk]⟩]
  exact h
theorem rp_1_0 {α β : Type} [Enc α] [Enc β] (C : CK) (H : Hp) (vs : List V) (x : α × β × Unit) (h : RepL C H vs (encl x)) : RepL C H (gTurn [] vs) (encl (x.2.1, x.1, ())) := by
  cases h with
  | cons h1 h2 => cases h2 with
    | cons h3 h4 =>
      cases h4
      exact .cons h3 (.cons h1 .nil)
end WH
namespace WH
open PySem PySem.Spec PyProof.Rows L2
open Enc (enc)
open EncL (encl)
/-! ### sets of texts in slots -/
section
variable {f : Fr} {env env' : DE} {n n' : Int} {σ σ' : Sl} {Hs H : Hp} {p a : Addr} {i : Nat} {oo oo' : Addr → HO}
theorem OkS.setOb (k : OkS f env n σ Hs H) (h : H a = some (oo a)) (hs : Hs a = none) (h0 : f.H0 a = none) (nu : Nu env σ a) (nt : ∀ a, Ntp (oo a) := by (first | (intro _ _ z; cases z) | (intro _ z; cases z) | assumption | (intro _ _ z; exact HO.noConfusion z))) : OkS f (env.set i (some (.ob oo))) n (σ.set i (some (.ref a))) Hs H := by
  refine ⟨by rw [List.length_set, List.length_set]; exact k.len, k.sub, k.mono, k.keep, k.frsh, fun j e x e1 e2 => ?_, fun j l b e e' nj e1 e2 o1 o2 e3 => ?_, k.pool, fun j e e1 => by
    rcases getset e1 with ⟨_, rfl⟩ | ⟨_, e1⟩
    · exact nt
    · exact k.nt j e e1⟩
  · rcases getset e1 with ⟨rfl, rfl⟩ | ⟨ne, e1⟩
    · rcases getset e2 with ⟨_, rfl⟩ | ⟨ne, _⟩
      · exact ⟨a, rfl, hs, h0, h⟩
      · exact absurd rfl ne
    · rcases getset e2 with ⟨z, rfl⟩ | ⟨_, e2⟩
      · exact absurd z ne
      · exact k.sl j e x e1 e2
  · rcases getset e1 with ⟨rfl, rfl⟩ | ⟨ne1, e1⟩
    · rcases getset e2 with ⟨rfl, rfl⟩ | ⟨ne2, e2⟩
      · exact absurd rfl nj
      rcases getset e3 with ⟨_, z⟩ | ⟨z, _⟩
      · obtain rfl : b = a := by simpa using z
        rw [List.getElem?_set_ne ne2]
        exact ⟨(nu l e' e2 o2).1, (nu l e' e2 o2).2, fun c hc => by cases hc⟩
      · exact absurd rfl z
    rw [List.getElem?_set_ne ne1] at e3
    rcases getset e2 with ⟨rfl, rfl⟩ | ⟨ne2, e2⟩
    · refine ⟨fun e4 => ?_, (fun h => by cases h), fun c _ h => by cases h⟩
      rcases getset e4 with ⟨_, z⟩ | ⟨z, _⟩
      · obtain rfl : b = a := by simpa using z
        exact (nu j e e1 o1).1 e3
      · exact z rfl
    rw [List.getElem?_set_ne ne2]
    exact k.apt j l b e e' nj e1 e2 o1 o2 e3
theorem OkS.ob (k : OkS f env n σ Hs H) (hi : env[i]? = some (some (.ob oo))) : ∃ a, σ[i]? = some (some (.ref a)) ∧ H a = some (oo a) ∧ f.H0 a = none ∧ Hs a = none := by
  have hl : i < σ.length := by
    have := (List.getElem?_eq_some_iff.mp hi).1
    rw [k.len] at this
    exact this
  obtain ⟨a, h1, h2, h3, h4⟩ := k.sl i _ _ hi (List.getElem?_eq_getElem hl)
  exact ⟨a, by rw [List.getElem?_eq_getElem hl, h1], h4, h3, h2⟩
/-- an owned object is written -/
theorem OkS.writeOb (k : OkS f env n σ Hs H) (hi : env[i]? = some (some (.ob oo))) (ha : σ[i]? = some (some (.ref a))) (nt : ∀ a, Ntp (oo' a) := by (first | (intro _ _ z; cases z) | (intro _ z; cases z) | assumption | (intro _ _ z; exact HO.noConfusion z))) : OkS f (env.set i (some (.ob oo'))) n σ Hs (upd H a (oo' a)) := by
  obtain ⟨a', z1, z2, z3, z4⟩ := k.sl i _ _ hi ha
  obtain rfl : a' = a := by simpa using z1.symm
  refine ⟨by rw [List.length_set]; exact k.len, fun b x e => ?_, k.mono, fun b x nb e => ?_, k.frsh, fun j e x e1 e2 => ?_, fun j l b e e' nj e1 e2 o1 o2 e3 => ?_, fun q hq => ?_, fun j e e1 => by
    rcases getset e1 with ⟨_, rfl⟩ | ⟨_, e1⟩
    · exact nt
    · exact k.nt j e e1⟩
  · rw [upd_ne (ne_of_none e z2)]
    exact k.sub _ _ e
  · rw [upd_ne (ne_of_none e z3)]
    exact k.keep _ _ nb e
  · rcases getset e1 with ⟨rfl, rfl⟩ | ⟨ne, e1⟩
    · rw [ha] at e2
      obtain rfl := Option.some.inj e2
      exact ⟨a', rfl, z2, z3, upd_same⟩
    · have q := k.sl j e x e1 e2
      match e, q, e1 with
      | none, _, _ => trivial
      | some (.sh d), q, _ => exact q
      | some (.ow ds), q, e1 =>
        obtain ⟨b, us, h1, h2, h3, h4, h5⟩ := q
        have z : b ≠ a' := fun z => k.dst i j a' _ _ ne hi e1 rfl rfl ha (by rw [e2, h1, z])
        exact ⟨b, us, h1, h2, h3, by rw [upd_ne z]; exact h4, h5⟩
      | some .pl, q, _ => exact q
      | some (.gh _), q, _ => exact q
      | some (.xn _ _ _), q, _ => exact q
      | some (.ob o'), q, e1 =>
        obtain ⟨b, h1, h2, h3, h4⟩ := q
        have z : b ≠ a' := fun z => k.dst i j a' _ _ ne hi e1 rfl rfl ha (by rw [e2, h1, z])
        exact ⟨b, h1, h2, h3, by rw [upd_ne z]; exact h4⟩
      | some (.om mq ds2), q, e1 =>
        obtain ⟨b, us, h1, h2, h3, h4, h5⟩ := q
        have z : b ≠ a' := fun z => k.dst i j a' _ _ ne hi e1 rfl rfl ha (by rw [e2, h1, z])
        exact ⟨b, us, h1, h2, h3, by rw [upd_ne z]; exact h4, h5⟩
      | some (.nst r o' ks ds2), q, e1 =>
        obtain ⟨h1, h2, h3, h4, h5, h6, h7⟩ := q
        have ap := k.apt i j a' _ _ ne hi e1 rfl rfl ha
        have z : r ≠ a' := fun z => ap.1 (by rw [e2, h1, z])
        exact ⟨h1, h2, h3, by rw [upd_ne z]; exact h4, h5, h6, h7.up (Same.refl _) fun c hc o2 _ n1 n2 => ⟨n1, by rw [upd_ne (fun z => ap.2.1 (by rw [← z]; exact hc))]; exact n2⟩⟩
  · have w : ∀ (m : Nat) (e : Option Sd), (env.set i (some (.ob oo')))[m]? = some e → isOw e = true → ∃ e0, env[m]? = some e0 ∧ isOw e0 = true ∧ kd e0 = kd e := fun m e h1 h2 => by
      rcases getset h1 with ⟨rfl, rfl⟩ | ⟨_, h1⟩
      · exact ⟨_, hi, rfl, rfl⟩
      · exact ⟨e, h1, h2, rfl⟩
    obtain ⟨x1, y1, y2, y5⟩ := w j e e1 o1
    obtain ⟨x2, y3, y4, y6⟩ := w l e' e2 o2
    rw [← y5, ← y6]
    exact k.apt j l b x1 x2 nj y1 y3 y2 y4 e3
  · obtain ⟨q1, q2, q3⟩ := k.pool q hq
    have z : q ≠ a' := fun z => q3 (by rw [z]; exact z3)
    obtain ⟨x, y, w, h1, h2⟩ := q1
    exact ⟨⟨x, y, w, by rw [upd_ne z]; exact h1, h2⟩, q2, q3⟩
end
section
variable {P : Program} {w : World} {f : Fr} {env : DE} {α : Type} [Enc α] {ta te : TE} {K : PySem.W.Frag} {D : Ends} {n n' : Int} {σ : Sl} {Hs H : Hp} {ss : List Str} {i : Nat}
theorem go_setNew (ok : OkS f env n σ Hs H) (k : ∀ σ' Hs' H', OkS f (env.set i (some (.ob fun a => SetXO P w a []))) n σ' Hs' H' → D.nx σ' H') : tAsg (tCB (rSetX0 P w) tNil) (gName i) D σ H := by
  refine ⟨rfl, fun p np => ?_⟩
  exact k _ Hs _ ((ok.allocU (o := SetXO P w p []) np).setOb upd_same (ok.hs np) (ok.h0 np) (ok.own_ne np))
/-- x in found -/
theorem ev_inZ {neg : Bool} {m : M Str} (ha : EvM f ta env m) (hi : env[i]? = some (some (.ob fun a => SetXO P w a ss))) : EvM f (tOp (rSetXIn P w neg) ta (tVar i)) env (bnd m fun x => ret (if neg then !decide (x ∈ ss) else decide (x ∈ ss))) := fun n σ Hs H k Qd q Q wq =>
  ha n σ Hs H k _ q _ fun x n1 v Hs1 H1 q1 k1 s1 r1 => by
    obtain ⟨a, h1, h2, _, _⟩ := k1.ob hi
    rw [rep_str r1]
    exact ⟨_, h1, x, a, ss, rfl, rfl, h2, wq _ n1 _ Hs1 H1 q1 k1 s1 (.bl _)⟩
theorem go_setAdd {m : M Str} {Qd : Str → Int → Prop} (ok : OkS f env n σ Hs H) (hi : env[i]? = some (some (.ob fun a => SetXO P w a ss))) (he : EvM f te env m) (hm : m n fun x n' => ss.length ≤ 1000 ∧ Qd x n')
    (k : ∀ x n' σ' Hs' H', Qd x n' → OkS f (env.set i (some (.ob fun a => SetXO P w a (if x ∈ ss then ss else ss ++ [x])))) n' σ' Hs' H' → D.nx σ' H') : tDrop (tSetXAdd P w (tVar i) (tCons te tNil)) D σ H := by
  obtain ⟨a, h1, h2, h3, _⟩ := ok.ob hi
  refine ⟨.ref a, h1, ⟨a, ss, rfl, h2⟩, he n σ Hs H ok _ hm _ fun x n' v Hs' H' q k' s r => ?_⟩
  rw [rep_str r]
  have h2' := s.k a _ (ok.notP (.inl h3)) h2
  exact ⟨a, x, ss, rfl, rfl, h2', Nat.lt_of_le_of_lt (Nat.succ_le_succ q.1) (by decide), k x n' σ Hs' _ q.2 (k'.writeOb hi h1)⟩
theorem en_sortedZ (hi : env[i]? = some (some (.ob fun a => SetXO P w a ss))) : EnM f (tCB (rSortedX P w) (tCons (tVar i) tNil)) env (fun n Q => ss.length < 64 ∧ ∀ ys : List Str, ys.Perm ss → sortedS ys = true → Q ys n) := fun n σ Hs H k Qd q Q wq => by
  obtain ⟨a, h1, h2, _, _⟩ := k.ob hi
  refine ⟨_, h1, a, ss, rfl, h2, q.1, fun ys p pp so np => ?_⟩
  have nw := k.newU (vs := ys.map V.str) np
  exact wq ys n p _ Hs _ (q.2 ys pp so) nw.1 nw.2.2 nw.2.1 (rep_strs)
theorem et_truthL {m : M (List α)} (ha : ElM f ta env m) : EtM f (fun σ H Q => ta σ H fun x H' => ∃ k, TruV K x H' k ∧ Q k H') env (bnd m fun xs => ret (!xs.isEmpty)) := fun n σ Hs H k Qd q Q wq =>
  ha n σ Hs H k _ q _ fun xs n1 p vs Hs1 H1 q1 k1 s1 np h1 r1 => by
    refine ⟨!vs.isEmpty, .inl ⟨vs, SqL.of h1, rfl⟩, ?_⟩
    have hl := r1.len
    rw [List.length_map] at hl
    have e : (!vs.isEmpty) = !xs.isEmpty := by
      cases vs <;> cases xs <;> simp_all
    rw [e]
    exact wq _ n1 Hs1 H1 q1 k1 s1
end
/-- the last item is taken out -/
abbrev popM {α : Type} (xs : List α) : M α := fun n Q => xs ≠ [] ∧ ∀ a, xs[xs.length - 1]? = some a → Q a n
section
variable {f : Fr} {env : DE} {α : Type} [Enc α] {g : TG} {K : PySem.W.Frag} {D : Ends} {n : Int} {σ : Sl} {Hs H : Hp}
theorem go_popM {js : List Nat} {e' : α → DE → DE} {Qd : α → Int → Prop} {i : Nat} {xs : List α} (ok : OkS f env n σ Hs H) (hi : env[i]? = some (some (.ow (xs.map enc)))) (hg : EgM f g js e') (hm : popM xs n Qd)
    (w : ∀ a n' σ' Hs' H', Qd a n' → OkS f (e' a (env.set i (some (.ow (xs.dropLast.map enc))))) n' σ' Hs' H' → D.nx σ' H') : tAsg (tBM0 K "list" rPop (tVar i)) g D σ H := go_pop ok hi hg hm w
end
end WH
namespace WH
open PySem PySem.Spec PyProof.Rows L2
open Enc (enc)
open EncL (encl)
/-! ### ranges in slots; comprehensions with two `for`s -/
section
variable {f : Fr} {env : DE} {α β γ δ : Type} [Enc α] [Enc β] [Enc γ] [Enc δ] {ta tb tc td te : TE} {tt uu : TT} {tas : TA} {ti ti1 : TI} {g g1 : TG} {K : PySem.W.Frag} {D : Ends} {n n' : Int} {σ : Sl} {Hs H : Hp} {i : Nat}
theorem go_rngNew {m : M Int} {Qd : Int → Int → Prop} (ok : OkS f env n σ Hs H) (he : EvM f te env m) (hm : m n Qd) (k : ∀ j n' σ' Hs' H', Qd j n' → OkS f (env.set i (some (.ob fun _ => .rng 0 j))) n' σ' Hs' H' → D.nx σ' H') : tAsg (tCB rRange1 (tCons te tNil)) (gName i) D σ H :=
  he n σ Hs H ok _ hm _ fun j n1 v Hs1 H1 q1 k1 s1 r1 => by
    rw [rep_int r1]
    refine ⟨j, rfl, fun p np => ?_⟩
    exact k j n1 _ Hs1 _ q1 ((k1.allocU (o := .rng 0 j) np).setOb (oo := fun _ => .rng 0 j) upd_same (k1.hs np) (k1.h0 np) (k1.own_ne np))
theorem es_rngV {j : Int} (hi : env[i]? = some (some (.ob fun _ => .rng 0 j))) : EsM f (iRngV (tVar i)) env (need (-1000000 ≤ j ∧ j ≤ 1000000) (ret (intsUp 0 j.toNat))) := fun n σ Hs H k Qd q R w => by
  obtain ⟨a, h1, h2, _, _⟩ := k.ob hi
  obtain ⟨⟨b1, b2⟩, q⟩ := q
  refine ⟨_, h1, a, 0, j, rfl, h2, ⟨by omega, by omega, by omega, by omega⟩, ?_⟩
  rw [Int.sub_zero]
  exact w _ n Hs H _ q k .refl it_range
theorem wipe_at : ∀ (vs : List Nat) (i : Nat), i ∉ vs → (wipe σ vs)[i]? = σ[i]?
  | [], i, _ => rfl
  | v :: vs, i, h => by
    unfold wipe
    rw [List.getElem?_set_ne (fun z => h (by rw [z]; exact List.mem_cons_self))]
    exact wipe_at vs i fun z => h (List.mem_cons_of_mem _ z)
theorem wipeE_at : ∀ (vs : List Nat) (i : Nat), i ∉ vs → (wipeE env vs)[i]? = env[i]?
  | [], i, _ => rfl
  | v :: vs, i, h => by
    unfold wipeE
    rw [List.getElem?_set_ne (fun z => h (by rw [z]; exact List.mem_cons_self))]
    exact wipeE_at vs i fun z => h (List.mem_cons_of_mem _ z)
theorem wipe_in : ∀ (vs : List Nat) (i : Nat), i ∈ vs → (wipe σ vs)[i]? = (σ[i]?).map fun _ => none
  | v :: vs, i, h => by
    unfold wipe
    by_cases e : v = i
    · subst e
      by_cases hl : v < (wipe σ vs).length
      · rw [List.getElem?_set_self hl]
        rw [wipe_length] at hl
        rw [List.getElem?_eq_getElem hl]
        rfl
      · rw [List.getElem?_eq_none (by rw [List.length_set]; omega)]
        rw [wipe_length] at hl
        rw [List.getElem?_eq_none (by omega)]
        rfl
    · rw [List.getElem?_set_ne e]
      rcases List.mem_cons.mp h with h | h
      · exact absurd h.symm e
      · exact wipe_in vs i h
theorem wipe_sub {vs us : List Nat} (h : ∀ j ∈ us, j ∈ vs) : wipe (wipe σ us) vs = wipe σ vs := by
  apply List.ext_getElem?
  intro i
  by_cases e : i ∈ vs
  · rw [wipe_in vs i e, wipe_in vs i e]
    by_cases e2 : i ∈ us
    · rw [wipe_in us i e2]
      cases σ[i]? <;> rfl
    · rw [wipe_at us i e2]
  · rw [wipe_at vs i e, wipe_at vs i e, wipe_at us i fun z => e (h i z)]
/-- g for each, all that it gives -/
def cmpC {α β : Type} : List α → (α → M (List β)) → M (List β)
  | [], _ => ret []
  | x :: r, g => bnd (g x) fun o => bnd (cmpC r g) fun ys => ret (o ++ ys)
theorem en_comp2 {js vs js1 vs1 : List Nat} {e' : α → DE → DE} {e1 : α → β → DE → DE} {ms : M (List α)} {mi : α → M (List β)} {mt : α → β → M Bool} {me : α → β → M γ} (hs : EsM f ti env ms) (hg : EgM f g js e') (hj : ∀ j ∈ js, j ∈ vs) (no : ∀ j ∈ vs, ∀ e, env[j]? = some e → isOw e = false)
    (hwe : ∀ a, wipeE (e' a (wipeE env vs)) vs = wipeE env vs) (no1 : ∀ a, ∀ j ∈ vs, ∀ e, (e' a (wipeE env vs))[j]? = some e → isOw e = false)
    (hi : ∀ a, EsM f ti1 (e' a (wipeE env vs)) (mi a)) (hg1 : ∀ a, EgM f g1 js1 (e1 a)) (hj1 : ∀ j ∈ js1, j ∈ vs1) (hvs : ∀ j ∈ vs1, j ∈ vs)
    (hwe1 : ∀ a b, wipeE (e1 a b (wipeE (e' a (wipeE env vs)) vs1)) vs1 = wipeE (e' a (wipeE env vs)) vs1) (hwe2 : ∀ a, wipeE (wipeE (e' a (wipeE env vs)) vs1) vs = wipeE env vs)
    (ht : ∀ a b, EtM f tt (e1 a b (wipeE (e' a (wipeE env vs)) vs1)) (mt a b)) (he : ∀ a b, EvM f te (e1 a b (wipeE (e' a (wipeE env vs)) vs1)) (me a b)) :
    EnM f (tLc2 ti g tYes ti1 g1 tt te vs vs1) env (bnd ms fun xs => need (xs.length ≤ 900) (cmpC xs fun x => bnd (mi x) fun ys => need (ys.length ≤ 1000) (cmpW ys fun y => turnM (mt x y) (me x y)))) := fun n σ Hs H k Qd q Q w =>
  hs n σ Hs H k _ q _ fun xs n1 Hs1 H1 J q1 k1 s1 it => fun D hD => by
    obtain ⟨k2, nw, x2⟩ := k1.newU (vs := []) hD
    have kw := k2.wipe vs
    have nuw : Nu (wipeE env vs) (wipe σ vs) D := fun j e h1 h2 => by
      rcases wipeE_get (σ := σ) vs j e h1 with rfl | ⟨h3, h4⟩
      · cases h2
      · rw [h4]
        exact nw.nu j e h3 h2
    have nP : some D ≠ f.P := fun z => (k1.pool D z.symm).2.2 nw.h0
    let G : α → M (List γ) := fun x => bnd (mi x) fun ys => need (ys.length ≤ 1000) (cmpW ys fun y => turnM (mt x y) (me x y))
    let I : Nat → Hp → Prop := fun i H' => ∃ n' Hs' acc ys, OkS f (wipeE env vs) n' (wipe σ vs) Hs' H' ∧ Ext f Hs1 (upd H1 D (.lst [])) Hs' (upd H' D (.lst [])) ∧ H' D = some (.lst acc) ∧ Hs' D = none ∧ RepL f.C Hs' acc (ys.map enc) ∧ acc.length ≤ 1000 * i ∧
      cmpC (xs.drop i) G n' (fun r n'' => Qd (ys ++ r) n'')
    have uu2 : upd (upd H1 D (.lst [])) D (.lst []) = upd H1 D (.lst []) := upd_upd
    refine ⟨fun i m H' => m = xs.length - i ∧ i ≤ xs.length ∧ I i H', ⟨xs.length, by simp, Nat.zero_le _, n1, Hs1, [], [], kw, by rw [uu2]; exact .refl, upd_same, nw.hs, .nil, Nat.zero_le _, by simpa using q1.2⟩, ?_⟩
    -- how the hidden list is kept
    have keepD : ∀ {Hs2 H2 Hs' H' : Hp} {acc : List V}, H2 D = some (.lst acc) → Hs2 D = none → Ext f Hs2 H2 Hs' H' → H' D = some (.lst acc) ∧ Hs' D = none := fun h1 h2 z => ⟨z.k _ _ nP h1, z.u _ _ (.inl nt_lst) h1 h2⟩
    have exD : ∀ {Hs2 H2 Hs' H' : Hp} {acc : List V}, H2 D = some (.lst acc) → Hs2 D = none → Ext f Hs1 (upd H1 D (.lst [])) Hs2 (upd H2 D (.lst [])) → Ext f Hs2 H2 Hs' H' → Ext f Hs1 (upd H1 D (.lst [])) Hs' (upd H' D (.lst [])) := fun {Hs2 H2 Hs' H' acc} hD2 hsD2 s2 z => by
      refine s2.trans ⟨z.s, fun b o nb eb => ?_, fun b eb => ?_, fun b o nt eb nb => ?_⟩
      · by_cases y : b = D
        · subst y
          rw [upd_same] at eb ⊢
          exact eb
        · rw [upd_ne y] at eb ⊢
          exact z.k b o nb eb
      · by_cases y : b = D
        · subst y
          rw [upd_same] at eb
          cases eb
        · rw [upd_ne y] at eb ⊢
          exact z.t b eb
      · by_cases y : b = D
        · subst y
          exact z.u b _ (.inl nt_lst) hD2 hsD2
        · rw [upd_ne y] at eb
          exact z.u b o nt eb nb
    rintro i m H2 ⟨rfl, hi', n2, Hs2, acc, ys, kk, s2, hD2, hsD2, r2, ly, q2⟩
    by_cases hlt : i < xs.length
    · refine .inr ⟨it.go i Hs2 H2 s2.s kk.sub hlt, I (i + 1), fun H' p => ⟨xs.length - (i + 1), by omega, rfl, hlt, p⟩, ?_⟩
      intro x H3 hy
      have e : xs[i]? = some xs[i] := List.getElem?_eq_getElem hlt
      have ed : xs.drop i = xs[i] :: xs.drop (i + 1) := List.drop_eq_getElem_cons hlt
      generalize xs[i] = a at e ed
      rw [ed] at q2
      obtain ⟨Hs3, k3, s3, r3⟩ := it.yld i a _ _ _ _ _ x H3 e kk s2.s hy
      obtain ⟨hD3, hsD3⟩ := keepD hD2 hsD2 s3
      have x3 := exD hD2 hsD2 s2 s3
      refine hg _ _ _ _ _ x a k3 r3 _ fun σ2 hσ k4 => ⟨by rw [hσ vs hj, wipe_wipe], ?_⟩
      have hwσ : wipe σ2 vs = wipe σ vs := by rw [hσ vs hj, wipe_wipe]
      unfold tYes
      dsimp only
      rw [if_pos rfl]
      have nu2 : Nu (e' a (wipeE env vs)) σ2 D := fun j e h1 h2 => by
        by_cases c : j ∈ vs
        · rw [no1 a j c e h1] at h2
          cases h2
        · have a1 : (wipeE (e' a (wipeE env vs)) vs)[j]? = some e := by rw [wipeE_at vs j c]; exact h1
          rw [hwe] at a1
          have a2 : (wipe σ2 vs)[j]? = σ2[j]? := wipe_at vs j c
          rw [← a2, hwσ]
          exact nuw j e a1 h2
      have nu3 : Nu (wipeE (e' a (wipeE env vs)) vs1) (wipe σ2 vs1) D := fun j e h1 h2 => by
        rcases wipeE_get (σ := σ2) vs1 j e h1 with rfl | ⟨h3, h4⟩
        · cases h2
        · rw [h4]
          exact nu2 j e h3 h2
      have q2' : (mi a) n2 _ := q2
      refine hi a n2 σ2 Hs3 H3 k4 _ q2' _ fun zs n4 Hs4 H4 J1 q4 k5 s4 it1 => ?_
      obtain ⟨hz, q4⟩ := q4
      obtain ⟨hD4, hsD4⟩ := keepD hD3 hsD3 s4
      have x4 := exD hD3 hsD3 x3 s4
      let I1 : Nat → Hp → Prop := fun j H' => ∃ n' Hs' acc1 us, OkS f (wipeE (e' a (wipeE env vs)) vs1) n' (wipe σ2 vs1) Hs' H' ∧ Same Hs4 Hs' ∧ Ext f Hs1 (upd H1 D (.lst [])) Hs' (upd H' D (.lst [])) ∧ H' D = some (.lst acc1) ∧ Hs' D = none ∧ RepL f.C Hs' acc1 ((ys ++ us).map enc) ∧ acc1.length ≤ 1000 * i + j ∧
        cmpW (zs.drop j) (fun y => turnM (mt a y) (me a y)) n' (fun r n'' => cmpC (xs.drop (i + 1)) G n'' (fun r' n3 => Qd (ys ++ (us ++ r ++ r')) n3))
      refine ⟨fun j m H' => m = zs.length - j ∧ j ≤ zs.length ∧ I1 j H', ⟨zs.length, by simp, Nat.zero_le _, n4, Hs4, acc, [], k5.wipe vs1, Same.refl _, x4, hD4, hsD4, ?_, by omega, ?_⟩, ?_⟩
      · rw [List.append_nil]
        exact (r2.same s3.s).same s4.s
      · simpa using q4
      rintro j m H5 ⟨rfl, hj', n5, Hs5, acc5, us, k6, s5, x5, hD5, hsD5, r5, l5, q5⟩
      by_cases hlt1 : j < zs.length
      · refine .inr ⟨it1.go j Hs5 H5 s5 k6.sub hlt1, I1 (j + 1), fun H' p => ⟨zs.length - (j + 1), by omega, rfl, hlt1, p⟩, ?_⟩
        intro y H6 hy6
        have e6 : zs[j]? = some zs[j] := List.getElem?_eq_getElem hlt1
        have ed6 : zs.drop j = zs[j] :: zs.drop (j + 1) := List.drop_eq_getElem_cons hlt1
        generalize zs[j] = b at e6 ed6
        rw [ed6] at q5
        obtain ⟨Hs6, k7, s6, r6⟩ := it1.yld j b _ _ _ _ _ y H6 e6 k6 s5 hy6
        obtain ⟨hD6, hsD6⟩ := keepD hD5 hsD5 s6
        have x6 := exD hD5 hsD5 x5 s6
        refine hg1 a _ _ _ _ _ y b k7 r6 _ fun σ3 hσ3 k8 => ⟨by rw [hσ3 vs1 hj1, wipe_wipe], ?_⟩
        have hwσ3 : wipe σ3 vs1 = wipe σ2 vs1 := by rw [hσ3 vs1 hj1, wipe_wipe]
        have q5' : (mt a b) n5 _ := q5
        refine ht a b n5 σ3 Hs6 H6 k8 _ q5' _ fun c n7 Hs7 H7 q7 k9 s7 => ?_
        obtain ⟨hD7, hsD7⟩ := keepD hD6 hsD6 s7
        have x7 := exD hD6 hsD6 x6 s7
        cases c with
        | false =>
          have q8 := q7.2 rfl
          simp only [Bool.false_eq_true, if_false]
          have k10 := k9.wipe vs1
          rw [hwe1, hwσ3] at k10
          exact ⟨n7, Hs7, acc5, us, k10, (s5.trans s6.s).trans s7.s, x7, hD7, hsD7, (r5.same s6.s).same s7.s, by omega, by simpa using q8⟩
        | true =>
          have q8 := q7.1 rfl
          simp only [if_true]
          refine he a b n7 σ3 Hs7 H7 k9 _ q8 _ fun z n9 v9 Hs9 H9 q9 k10 s9 r9 => ?_
          obtain ⟨hD9, hsD9⟩ := keepD hD7 hsD7 s9
          have x9 := exD hD7 hsD7 x7 s9
          have k11 := k10.wipe vs1
          rw [hwe1, hwσ3] at k11
          have hL := q1.1
          refine ⟨acc5, hD9, lim_lt ?_, n9, Hs9, acc5 ++ [v9], us ++ [z], k11.writeU hsD9 nw.h0 nu3, ((s5.trans s6.s).trans s7.s).trans s9.s, ?_, upd_same, hsD9, ?_, ?_, ?_⟩
          · have : 1000 * i ≤ 1000 * 900 := Nat.mul_le_mul_left _ (by omega)
            show acc5.length ≤ 1000000
            omega
          · rw [upd_upd]
            exact x9
          · rw [← List.append_assoc, List.map_append]
            exact (((r5.same s6.s).same s7.s).same s9.s).app (.cons r9 .nil)
          · rw [List.length_append]
            simp
            omega
          · simp only [List.append_assoc] at q9 ⊢
            exact q9
      · have e9 : j = zs.length := by omega
        subst e9
        refine .inl ⟨it1.stop Hs5 H5 s5 k6.sub, ?_⟩
        rw [List.drop_length] at q5
        have k10 := k6.wipe vs
        rw [hwe2, wipe_sub hvs, hwσ] at k10
        have q5 : cmpC (xs.drop (i + 1)) G n5 (fun r' n3 => Qd (ys ++ (us ++ [] ++ r')) n3) := q5
        refine ⟨n5, Hs5, acc5, ys ++ us, k10, x5, hD5, hsD5, r5, by omega, ?_⟩
        simpa [List.append_assoc] using q5
    · have e : i = xs.length := by omega
      subst e
      refine .inl ⟨it.stop Hs2 H2 s2.s kk.sub, ?_⟩
      rw [List.drop_length] at q2
      have q2 : Qd (ys ++ []) n2 := q2
      rw [List.append_nil] at q2
      have z : Ext f Hs1 H1 Hs2 H2 := ⟨s2.s, fun b o nb eb => by
        have y : b ≠ D := ne_of_none eb hD
        have := s2.k b o nb (by rw [upd_ne y]; exact eb)
        rwa [upd_ne y] at this, fun b eb => by
        have y : b ≠ D := fun y => by rw [y, hD2] at eb; cases eb
        have := s2.t b (by rw [upd_ne y]; exact eb)
        rwa [upd_ne y] at this, fun b o nt eb nb => by
        have y : b ≠ D := ne_of_none eb hD
        exact s2.u b o nt (by rw [upd_ne y]; exact eb) nb⟩
      exact w ys n2 D acc Hs2 H2 q2 (k1.back kk z.s no) (s1.trans z) ⟨hD2, hsD2, nw.h0, nw.nu, s1.t D nw.n⟩ r2
end
end WH
namespace WH
open PySem PySem.Spec PyProof.Rows L2
open Enc (enc)
open EncL (encl)
/-! ### heaps in slots -/
def i3 (t : T3 Int Str Str) : I3 := (t.a, t.b, t.c)
def HeapT (ts : List (T3 Int Str Str)) : Prop := HeapL (ts.map i3)
abbrev heapM (xs : List (T3 Int Str Str)) : M (List (T3 Int Str Str)) := fun n Q => xs.length ≤ 2500 ∧ ∀ ys, ys.Perm xs → HeapT ys → Q ys n
abbrev popHM (xs : List (T3 Int Str Str)) : M (T3 Int Str Str × List (T3 Int Str Str)) := fun n Q => (xs ≠ [] ∧ xs.length ≤ LIM ∧ HeapT xs) ∧ ∀ t ys, xs[0]? = some t → (t :: ys).Perm xs → HeapT ys → Q (t, ys) n
abbrev pushHM (xs : List (T3 Int Str Str)) (t : T3 Int Str Str) : M (List (T3 Int Str Str)) := fun n Q => (xs.length ≤ LIM ∧ HeapT xs) ∧ ∀ ys, ys.Perm (xs ++ [t]) → HeapT ys → Q ys n
section
variable {f : Fr} {env : DE} {te : TE} {D : Ends} {n n' : Int} {σ : Sl} {Hs H : Hp} {i : Nat} {g : TG} {xs : List (T3 Int Str Str)}
theorem tu3_of {u : V} {t : T3 Int Str Str} (r : Rep f.C Hs u (enc t)) (s : Same Hs H) : Tu3 f.C.k H u (i3 t) := by
  have r : Rep f.C Hs u (.tup [.int t.a, .str t.b, .str t.c]) := r
  cases r with
  | tup h1 h2 =>
    cases h2 with
    | cons a h2 =>
      cases h2 with
      | cons b h2 =>
        cases h2 with
        | cons c h2 =>
          cases h2
          cases a
          cases b
          cases c
          exact ⟨_, rfl, sqRd (rdUp h1 s)⟩
theorem paired_of : ∀ {us : List V} {xs : List (T3 Int Str Str)}, RepL f.C Hs us (xs.map enc) → Same Hs H → Paired (Tu3 f.C.k H) us (xs.map i3)
  | _, [], .nil, _ => .nil
  | _, x :: xs, .cons r h, s => .cons (tu3_of r s) (paired_of h s)
theorem repL_perm {C : CK} {us' us : List V} (p : us'.Perm us) : ∀ {xs : List (T3 Int Str Str)}, RepL C Hs us (xs.map enc) → ∃ ys : List (T3 Int Str Str), RepL C Hs us' (ys.map enc) ∧ ys.Perm xs := by
  induction p with
  | nil =>
    intro xs h
    cases xs with
    | nil => exact ⟨[], .nil, .refl _⟩
    | cons x xs => cases h
  | cons v _ ih =>
    intro xs h
    cases xs with
    | nil => cases h
    | cons x xs =>
      cases h with
      | cons r h =>
        obtain ⟨ys, h1, h2⟩ := ih h
        exact ⟨x :: ys, .cons r h1, h2.cons _⟩
  | swap v u l =>
    intro xs h
    match xs, h with
    | x :: y :: xs, .cons r (.cons r2 h) => exact ⟨y :: x :: xs, .cons r2 (.cons r h), .swap _ _ _⟩
  | trans _ _ ih1 ih2 =>
    intro xs h
    obtain ⟨ys, h1, h2⟩ := ih2 h
    obtain ⟨zs, h3, h4⟩ := ih1 h1
    exact ⟨zs, h3, h4.trans h2⟩
theorem same_list {us' : List V} {ys : List (T3 Int Str Str)} {xs' : List I3} (r : RepL f.C Hs us' (ys.map enc)) (s : Same Hs H) (pr : Paired (Tu3 f.C.k H) us' xs') (fn : ∀ (k : Nat) (z : V) (y : I3), us'[k]? = some z → Tu3 f.C.k H z y → xs'[k]? = some y) : xs' = ys.map i3 := by
  have p2 := paired_of r s
  have l1 := paired_len pr
  have l2 := paired_len p2
  apply List.ext_getElem?
  intro k
  by_cases h : k < us'.length
  · obtain ⟨y, hy⟩ : ∃ y, (ys.map i3)[k]? = some y := ⟨_, List.getElem?_eq_getElem (by omega)⟩
    obtain ⟨u, hu, t⟩ := paired_get p2 hy
    rw [hy]
    exact fn k u y hu t
  · rw [List.getElem?_eq_none (by omega), List.getElem?_eq_none (by omega)]
theorem go_heapify {Qd : List (T3 Int Str Str) → Int → Prop} (ok : OkS f env n σ Hs H) (hi : env[i]? = some (some (.ow (xs.map enc)))) (hm : heapM xs n Qd)
    (w : ∀ ys σ' Hs' H', Qd ys n → OkS f (env.set i (some (.ow (ys.map enc)))) n σ' Hs' H' → D.nx σ' H') : tDrop (tCB (rHeapify f.C.k) (tCons (tVar i) tNil)) D σ H := by
  obtain ⟨a, vs, h1, h2, h3, h4⟩ := ok.ow hi
  have hl := h3.len
  rw [List.length_map] at hl
  refine ⟨_, h1, a, vs, xs.map i3, rfl, h2, by rw [hl]; exact hm.1, paired_of h3 ok.sub, fun us' xs' pm pr hp fn => ?_⟩
  obtain ⟨ys, y1, y2⟩ := repL_perm pm h3
  have e := same_list y1 ok.sub pr fn
  subst e
  exact w ys σ Hs _ (hm.2 ys y2 hp) (ok.write hi h1 y1)
theorem go_heappop {js : List Nat} {e' : T3 Int Str Str → DE → DE} {Qd : T3 Int Str Str × List (T3 Int Str Str) → Int → Prop} (ok : OkS f env n σ Hs H) (hi : env[i]? = some (some (.ow (xs.map enc)))) (hg : EgM f g js e') (hm : popHM xs n Qd)
    (w : ∀ t ys σ' Hs' H', Qd (t, ys) n → OkS f (e' t (env.set i (some (.ow (ys.map enc))))) n σ' Hs' H' → D.nx σ' H') : tAsg (tCB (rHeappop f.C.k) (tCons (tVar i) tNil)) g D σ H := by
  obtain ⟨a, vs, h1, h2, h3, h4⟩ := ok.ow hi
  have hl := h3.len
  rw [List.length_map] at hl
  obtain ⟨⟨m1, m2, m3⟩, hm⟩ := hm
  have ne : vs ≠ [] := fun z => m1 (List.eq_nil_of_length_eq_zero (by rw [← hl, z]; rfl))
  refine ⟨_, h1, a, vs, xs.map i3, rfl, h2, ne, by rw [hl]; exact m2, paired_of h3 ok.sub, m3, fun uq u us' xs' u0 pm pr hp fn => ?_⟩
  obtain ⟨ys0, y1, y2⟩ := repL_perm pm h3
  cases ys0 with
  | nil => cases y1
  | cons t ys =>
    cases y1 with
    | cons ru y1 =>
      have e := same_list y1 ok.sub pr fn
      subst e
      have hx0 : xs[0]? = some t := by
        cases xs with
        | nil => exact absurd rfl m1
        | cons x xs' =>
          cases h3 with
          | cons rx _ =>
            obtain rfl := Option.some.inj u0
            have a1 := tu3_of rx ok.sub
            have a2 := tu3_of ru ok.sub
            have e := uq _ _ _ a1 a2
            obtain ⟨x1, x2, x3⟩ := x
            obtain ⟨t1, t2, t3⟩ := t
            unfold i3 at e
            dsimp only at e
            injection e with q1 e
            injection e with q2 q3
            rw [q1, q2, q3]
            rfl
      have k2 := ok.write hi h1 y1
      exact hg _ n _ Hs _ u t k2 ru _ fun σ' _ k3 => w t ys σ' Hs _ (hm t ys hx0 y2 hp) k3
theorem go_heappush {m : M (T3 Int Str Str)} {Qd : List (T3 Int Str Str) → Int → Prop} (ok : OkS f env n σ Hs H) (hi : env[i]? = some (some (.ow (xs.map enc)))) (he : EvM f te env m) (hm : m n fun t n' => pushHM xs t n' Qd)
    (w : ∀ ys n' σ' Hs' H', Qd ys n' → OkS f (env.set i (some (.ow (ys.map enc)))) n' σ' Hs' H' → D.nx σ' H') : tDrop (tCB (rHeappush f.C.k) (tCons (tVar i) (tCons te tNil))) D σ H := by
  obtain ⟨a, vs, h1, h2, h3, h4⟩ := ok.ow hi
  have hl := h3.len
  rw [List.length_map] at hl
  refine ⟨_, h1, he n σ Hs H ok _ hm _ fun t n' u Hs' H' q k s r => ?_⟩
  obtain ⟨⟨m2, m3⟩, q⟩ := q
  have h2' := s.k a _ (ok.notP (.inl h4)) h2
  have h3' := h3.same s.s
  refine ⟨a, u, i3 t, vs, xs.map i3, rfl, h2', by rw [hl]; exact m2, paired_of h3' k.sub, m3, tu3_of r k.sub, fun us' xs' pm pr hp fn => ?_⟩
  have h5 : RepL f.C Hs' (vs ++ [u]) ((xs ++ [t]).map enc) := by
    rw [List.map_append]
    exact h3'.app (.cons r .nil)
  obtain ⟨ys, y1, y2⟩ := repL_perm pm h5
  have e := same_list y1 k.sub pr fn
  subst e
  exact w ys n' σ Hs' _ (q ys y2 hp) (k.write hi h1 y1)
end
section
variable {f : Fr} {env : DE} {te : TE}
theorem it_rev {k : Nat} {lo : Int} {Hs0 : Hp} (e : lo = (k : Int) - 1) : ItOk f (Itc lo (-1) k) (intsUp 0 k).reverse Hs0 := by
  have hl : (intsUp 0 k).reverse.length = k := by rw [List.length_reverse, intsUp_len]
  refine ⟨fun i Hs H s1 s2 hi => by rw [hl] at hi; exact hi, fun Hs H s1 s2 => by rw [hl]; exact Nat.le_refl _, fun i a env n σ Hs H x H' hx kk s y => ?_⟩
  obtain ⟨e1, e2⟩ := y
  subst e1
  have hi := (List.getElem?_eq_some_iff.mp hx).1
  rw [hl] at hi
  rw [List.getElem?_reverse (by rw [intsUp_len]; exact hi), intsUp_len] at hx
  unfold intsUp at hx
  rw [List.getElem?_map, List.getElem?_range (by omega)] at hx
  have hx : (0 : Int) + ((k - 1 - i : Nat) : Int) = a := Option.some.inj hx
  refine ⟨Hs, kk, .refl, ?_⟩
  rw [e2, show lo + (i : Int) * (-1) = a by omega]
  exact .int a
theorem es_revRange {m : M Int} (h : EvM f te env m) : EsM f (iRevR (tRg1 te)) env (bnd m fun j => need (0 ≤ j ∧ j ≤ 1000000) (ret (intsUp 0 j.toNat).reverse)) := fun n σ Hs H k Qd q R w =>
  h n σ Hs H k _ q _ fun j n1 v Hs1 H1 q1 k1 s1 r1 => by
    rw [rep_int r1]
    obtain ⟨⟨b1, b2⟩, q1⟩ := q1
    refine ⟨j, rfl, by omega, by omega, by omega, by omega, ?_⟩
    rw [Int.sub_zero]
    exact w _ n1 Hs1 H1 _ q1 k1 s1 (it_rev (by omega))
end
section
variable {f : Fr} {env : DE} {α : Type} [Enc α] {ta te : TE} {D : Ends} {n n' : Int} {σ : Sl} {Hs H : Hp} {i : Nat}
/-- xs[k] = a -/
theorem go_setItem2 {m : M α} {mk : M Int} {Qd : α → Int → Nat → Int → Prop} {xs : List α} (ok : OkS f env n σ Hs H) (hi : env[i]? = some (some (.ow (xs.map enc)))) (he : EvM f te env m) (hx : EvM f ta env mk) (hm : m n fun a n1 => mk n1 fun k n2 => ∃ j, ixN xs.length k = some j ∧ Qd a k j n2)
    (w : ∀ a k j n' σ' Hs' H', Qd a k j n' → OkS f (env.set i (some (.ow ((xs.set j a).map enc)))) n' σ' Hs' H' → D.nx σ' H') : tAsg te (gSub (tVar i) ta rSetL) D σ H := by
  obtain ⟨a, vs, h1, h2, h3, h4⟩ := ok.ow hi
  refine he n σ Hs H ok _ hm _ fun y n1 v Hs1 H1 q1 k1 s1 r1 => ⟨.ref a, h1, hx n1 σ Hs1 H1 k1 _ q1 _ fun k n2 u Hs2 H2 q2 k2 s2 r2 => ?_⟩
  obtain ⟨j, ej, q2⟩ := q2
  have h2' := (s1.trans s2).k a _ (ok.notP (.inl h4)) h2
  have hl := h3.len
  rw [List.length_map] at hl
  rw [rep_int r2]
  refine ⟨a, vs, k, j, rfl, rfl, h2', by rw [hl]; exact ej, w y k j n2 σ Hs2 _ q2 (k2.write hi h1 ?_)⟩
  rw [List.map_set]
  exact RepL.set (r1.same s2.s) j (h3.same (s1.trans s2).s)
end
theorem go_aug2 {f : Fr} {env : DE} {te : TE} {D : Ends} {n : Int} {σ : Sl} {Hs H : Hp} {m : M Int} {Qd : Int → Int → Prop} {i : Nat} {g : Int → Int → Int} {x : Int} (ok : OkS f env n σ Hs H) (hi : env[i]? = some (some (.sh (enc x)))) (he : EvM f te env m) (hm : bnd m (fun a => ret (g x a)) n Qd)
    (w : ∀ a n' σ' Hs' H', Qd a n' → OkS f (env.set i (some (.sh (enc a)))) n' σ' Hs' H' → D.nx σ' H') : tAug i te (ipI g) D σ H := go_aug ok hi he hm w
structure BuH (mg : Str → Option Value) : Prop where
  heapify : mg "heapify" = some (.builtin "_heapq.heapify")
  heappop : mg "heappop" = some (.builtin "_heapq.heappop")
  heappush : mg "heappush" = some (.builtin "_heapq.heappush")
theorem dunit1 {k : Nat} {A : Around} (h : Room k A) : A.in1.units < cLine := by
  have := dunit h
  show A.units + 1 < cLine
  omega
end WH
namespace WH
open PySem PySem.Spec PyProof.Rows L2
open Enc (enc)
open EncL (encl)
structure BuT (mg : Str → Option Value) : Prop where
  type : mg "type" = none
  str : mg "str" = none
  bool : mg "bool" = none
  dict : mg "dict" = none
/-- the name of a thing's type -/
def tyD : Dt → String
  | .non => "NoneType"
  | .bl _ => "bool"
  | .int _ => "int"
  | .str _ => "str"
  | .lst _ => "list"
  | .tup _ => "tuple"
  | .stk _ => "Stock"
  | .dic _ _ => "dict"
  | .dct _ _ => "dict"
def notStk : Dt → Prop
  | .stk _ => False
  | .dct _ _ => False
  | _ => True
section
variable {f : Fr} {env : DE} {α β γ : Type} [Enc α] [Enc β] [Enc γ] {ta tb te : TE}
theorem ev_repS {ma : M Str} {mb : M Int} (ha : EvM f ta env ma) (hb : EvM f tb env mb) : EvM f (tOp (fun x y H Q => ∃ z k, x = .str z ∧ y = .int k ∧ -(2 ^ 63) ≤ k ∧ k ≤ 1000000 ∧ z.length * k.toNat ≤ sizeLine ∧ Q (.str (repS z k.toNat)) H) ta tb) env
    (bnd ma fun a => bnd mb fun b => need (b ≤ LIM ∧ -1000000 ≤ b ∧ a.length * b.toNat ≤ LIM) (ret (repS a b.toNat))) :=
  ev_bin (mr := fun (a : Str) (b : Int) => need (b ≤ LIM ∧ -1000000 ≤ b ∧ a.length * b.toNat ≤ LIM) (ret (repS a b.toNat))) (fun x y a b n σ Hs H k rx ry Qd q Q w => by
    rw [rep_str rx, rep_int ry]
    obtain ⟨⟨q1, q2, q3⟩, q⟩ := q
    have q1 : b ≤ 1000000 := q1
    exact ⟨a, b, rfl, rfl, by omega, q1, lim_size q3, w _ n _ Hs H q k .refl (.str _)⟩) ha hb
theorem ev_isB {ma mb : M Bool} (ha : EvM f ta env ma) (hb : EvM f tb env mb) : EvM f (tOp (fun x y H Q => ∃ a b, x = .bl a ∧ y = .bl b ∧ Q (.bl (decide (a = b))) H) ta tb) env (bnd ma fun a => bnd mb fun b => ret (decide (a = b))) :=
  ev_bin (mr := fun a b => ret (decide (a = b))) (fun x y a b n σ Hs H k rx ry Qd q Q w => by
    rw [rep_bl rx, rep_bl ry]
    exact ⟨a, b, rfl, rfl, w _ n _ Hs H q k .refl (.bl _)⟩) ha hb
theorem ev_isntB {ma mb : M Bool} (ha : EvM f ta env ma) (hb : EvM f tb env mb) : EvM f (tOp (fun x y H Q => ∃ a b, x = .bl a ∧ y = .bl b ∧ Q (.bl (!decide (a = b))) H) ta tb) env (bnd ma fun a => bnd mb fun b => ret (!decide (a = b))) :=
  ev_bin (mr := fun a b => ret (!decide (a = b))) (fun x y a b n σ Hs H k rx ry Qd q Q w => by
    rw [rep_bl rx, rep_bl ry]
    exact ⟨a, b, rfl, rfl, w _ n _ Hs H q k .refl (.bl _)⟩) ha hb
theorem tyB_of {C : CK} {H : Hp} {v : V} {d : Dt} (r : Rep C H v d) (h : notStk d) : TyB C.k H v (tyD d) := by
  cases r with
  | non => exact .non
  | bl b => exact .bl b
  | int i => exact .int i
  | str x => exact .str x
  | lst h1 _ => exact .lst (SqL.of h1)
  | tup h1 _ => exact .tup (sqRd h1)
  | stk _ => exact h.elim
  | dic h1 _ _ => exact .dK h1
  | dct _ _ => exact h.elim
theorem tyD_in {d : Dt} (h : notStk d) : tyD d ∈ ["int", "str", "bool", "NoneType", "list", "tuple", "dict", "bytes"] := by
  cases d <;> first | exact h.elim | simp [tyD]
theorem ev_tyEq {m : M α} {T : String} (hT : T ∈ ["int", "str", "bool", "NoneType", "list", "tuple", "dict", "bytes"]) (h : EvM f ta env m) : EvM f (tOp rEqTy (tCB (rTyp f.C.k) (tCons ta tNil)) (tC (.ty T))) env (bnd m fun a => need (notStk (enc a)) (ret (decide (tyD (enc a) = T)))) := fun n σ Hs H k Qd q Q w =>
  h n σ Hs H k _ q _ fun a n1 v Hs1 H1 q1 k1 s1 r1 => ⟨v, _, rfl, tyB_of (r1.same k1.sub) q1.1, _, _, rfl, rfl, tyD_in q1.1, hT, w _ n1 _ Hs1 H1 q1.2 k1 s1 (.bl _)⟩
theorem ev_tyNe {m : M α} {T : String} (hT : T ∈ ["int", "str", "bool", "NoneType", "list", "tuple", "dict", "bytes"]) (h : EvM f ta env m) : EvM f (tOp rNeTy (tCB (rTyp f.C.k) (tCons ta tNil)) (tC (.ty T))) env (bnd m fun a => need (notStk (enc a)) (ret (!decide (tyD (enc a) = T)))) := fun n σ Hs H k Qd q Q w =>
  h n σ Hs H k _ q _ fun a n1 v Hs1 H1 q1 k1 s1 r1 => ⟨v, _, rfl, tyB_of (r1.same k1.sub) q1.1, _, _, rfl, rfl, tyD_in q1.1, hT, w _ n1 _ Hs1 H1 q1.2 k1 s1 (.bl _)⟩
/-- a list or tuple, its items -/
def seqD : Dt → Option (List Dt)
  | .lst ds => some ds
  | .tup ds => some ds
  | _ => none
theorem ev_lenD {m : M Dt} (ha : EvM f ta env m) : EvM f (tCB (fun xs H Q => ∃ p ys, xs = [.ref p] ∧ (SqL f.C.k H p ys ∨ SqT f.C.k H p ys) ∧ Q (.int ys.length) H) (tCons ta tNil)) env (bnd m (fun d n Q => ∃ ds, seqD d = some ds ∧ Q ((ds.length : Nat) : Int) n)) := fun n σ Hs H k Qd q Q w =>
  ha n σ Hs H k _ q _ fun d n1 v Hs1 H1 q1 k1 s1 r1 => by
    obtain ⟨ds, e, q1⟩ := q1
    cases r1 with
    | lst h1 h2 =>
      obtain rfl := Option.some.inj e
      exact ⟨_, _, rfl, .inl (SqL.of (k1.sub _ _ h1)), w _ n1 _ Hs1 H1 q1 k1 s1 (by rw [h2.len]; exact .int _)⟩
    | tup h1 h2 =>
      obtain rfl := Option.some.inj e
      exact ⟨_, _, rfl, .inr (sqRd (rdUp h1 k1.sub)), w _ n1 _ Hs1 H1 q1 k1 s1 (by rw [h2.len]; exact .int _)⟩
    | _ => cases e
theorem es_tupD {m : M Dt} (h : EvM f te env m) : EsM f (iTup f.C.k te) env (bnd m (fun d n Q => ∃ ds : List Dt, d = .tup ds ∧ Q ds n)) := fun n σ Hs H k Qd q R w =>
  h n σ Hs H k _ q _ fun d n1 v Hs1 H1 q1 k1 s1 r1 => by
    obtain ⟨ds, rfl, q1⟩ := q1
    obtain ⟨a, vs, rfl, h1, h2⟩ := rep_tup r1
    have h3 : RepL f.C Hs1 vs (ds.map enc) := by
      rw [show (ds.map enc : List Dt) = ds from List.map_id ds]
      exact h2
    exact ⟨a, rfl, ⟨vs, sqRd (rdUp h1 k1.sub)⟩, w ds n1 Hs1 H1 _ q1 k1 s1 (it_plain (walk_tup (K := f.C.k) (a := a) (xs := vs)) (fun Hs2 H2 z1 z2 => sqRd (rdUp (rdUp h1 z1) z2)) h3)⟩
end
section
variable {X : Cx} {K : PySem.W.Frag}
theorem callK_type (h : X.K = K) : CallR X (.type "type") (rTyp K) := by subst h; exact call_type1
end
end WH
namespace WH
open PySem PySem.Spec PyProof.Rows L2
open Enc (enc)
open EncL (encl)
/-! ### set(..), as objects of the hand layer -/
def rSetXOf (K : PySem.W.Frag) (P : Program) (w : World) : List V → Hp → VK → Prop := fun vs H Q => ∃ (l : Addr) (xs : List Str), vs = [.ref l] ∧ SqL K H l (xs.map V.str) ∧ xs.length ≤ 1000 ∧ ∀ p, H p = none → Q (.ref p) (upd H p (SetXO P w p (ddS xs)))
theorem cr_setXOf {X : Cx} (hc : X.calm = true) : CallR X (.type "set") (rSetXOf X.K X.prog X.w) := fun pins s σ H xs us Q I r h => by
  obtain ⟨l, xs, rfl, hl, hf, q⟩ := h
  rw [Vals.ref1 r]
  obtain ⟨its, rv, pl, hz⟩ := I.list hl
  refine set_of_strs (P := X.prog) (w := X.w) xs (I.ok.hd hc) pl.isList (by simpa using strs_of_vals rv) (Nat.lt_of_le_of_lt (Nat.succ_le_succ hf) (by decide)) fun h' tk sx k => ?_
  exact ⟨.ref s.heap.objs.size, upd H s.heap.objs.size (SetXO X.prog X.w s.heap.objs.size (ddS xs)), I.laid (t' := tk) k (Nat.le_refl _) (setX_new sx), rfl, q _ (I.hok.fresh (Nat.le_refl _))⟩
def rSetXText (P : Program) (w : World) : List V → Hp → VK → Prop := fun vs H Q => ∃ z : Str, vs = [.str z] ∧ z.length ≤ 1000 ∧ ∀ p, H p = none → Q (.ref p) (upd H p (SetXO P w p (ddS (sgsS z))))
theorem cr_setXText {X : Cx} (hc : X.calm = true) : CallR X (.type "set") (rSetXText X.prog X.w) := fun pins s σ H xs us Q I r h => by
  obtain ⟨z, rfl, hf, q⟩ := h
  obtain ⟨u, rfl, rx⟩ := vals1 r
  obtain ⟨t, rfl⟩ := relStr rx
  refine set_of_text (P := X.prog) (w := X.w) (I.ok.hd hc) (Nat.lt_of_le_of_lt (Nat.succ_le_succ hf) (by decide)) fun h' tk sx k => ?_
  exact ⟨.ref s.heap.objs.size, upd H s.heap.objs.size (SetXO X.prog X.w s.heap.objs.size (ddS (sgsS z))), I.laid (t' := tk) k (Nat.le_refl _) (setX_new sx), rfl, q _ (I.hok.fresh (Nat.le_refl _))⟩
def rLenX (P : Program) (w : World) : List V → Hp → VK → Prop := fun vs H Q => ∃ (a : Addr) (ss : List Str), vs = [.ref a] ∧ H a = some (SetXO P w a ss) ∧ ss.length ≤ 1000 ∧ Q (.int ss.length) H
theorem cr_lenX {X : Cx} : CallR X (.builtin "len") (rLenX X.prog X.w) := fun pins s σ H xs us Q I r h => by
  obtain ⟨a, ss, rfl, ha, hl, q⟩ := h
  rw [Vals.ref1 r]
  obtain ⟨o, es, ep, t, zs, h1, h2, h3, h4, h5, h6, h7, h8, h9, h10, h11⟩ := setX_get I ha
  have e : es.size = ss.length := by
    have := h5.length
    rw [List.length_map, Array.length_toList, h6.length_eq] at this
    exact this
  refine call_len_set h1 h2 h3 h9 (by omega) ⟨.int ss.length, H, I.tok _, ⟨_, by rw [e]⟩, q⟩
/-! ### by data -/
section
variable {f : Fr} {env : DE} {te ta : TE} {K : PySem.W.Frag} {P : Program} {w : World}
theorem OkS.extU {n : Int} {σ : Sl} {Hs H : Hp} {p : Addr} {o : HO} (k : OkS f env n σ Hs H) (h : H p = none) : Ext f Hs H Hs (upd H p o) :=
  ⟨Same.refl _, fun a o' _ e => same_upd h _ _ e, fun a e => by
    by_cases z : a = p
    · rw [z]; exact h
    · rw [upd_ne z] at e; exact e, fun _ _ _ _ e => e⟩
theorem repS_vals {C : CK} {H : Hp} {vs : List V} : ∀ {xs : List Str}, RepL C H vs (xs.map enc) → vs = xs.map V.str := by
  induction vs with
  | nil =>
    intro xs h
    cases xs with
    | nil => rfl
    | cons x xs => cases h
  | cons v vs ih =>
    intro xs h
    cases xs with
    | nil => cases h
    | cons x xs =>
      cases h with
      | cons a b => rw [rep_str a, ih b]; rfl
theorem en_sortedSet {m : M (List Str)} (ha : ElM f te env m) : EnM f (tCB (rSortedX P w) (tCons (tCB (rSetXOf K P w) (tCons te tNil)) tNil)) env
    (bnd m fun xs => fun n Q => (xs.length ≤ 1000 ∧ (ddS xs).length < 64) ∧ ∀ ys : List Str, ys.Nodup → (∀ y, y ∈ ys ↔ y ∈ xs) → sortedS ys = true → Q ys n) := fun n σ Hs H k Qd q Q wq =>
  ha n σ Hs H k _ q _ fun xs n1 p vs Hs1 H1 q1 k1 s1 np h1 r1 => by
    rw [repS_vals r1] at h1
    refine ⟨p, xs, rfl, SqL.of h1, q1.1.1, fun p2 np2 => ⟨p2, ddS xs, rfl, upd_same, q1.1.2, fun ys p3 pp so np3 => ?_⟩⟩
    have k2 := k1.allocU (o := SetXO P w p2 (ddS xs)) np2
    have x2 := k1.extU (o := SetXO P w p2 (ddS xs)) np2
    have nw := k2.newU (vs := ys.map V.str) np3
    refine wq ys n1 p3 _ Hs1 _ (q1.2 ys (pp.nodup_iff.mpr (ddS_nd xs)) (fun y => by rw [pp.mem_iff, ddS_mem]) so) nw.1 ((s1.trans x2).trans nw.2.2) (nw.2.1.back (s1.trans x2)) rep_strs
theorem en_sortedSigns {m : M Str} (ha : EvM f te env m) : EnM f (tCB (rSortedX P w) (tCons (tCB (rSetXText P w) (tCons te tNil)) tNil)) env
    (bnd m fun z => fun n Q => (z.length ≤ 1000 ∧ (ddS (sgsS z)).length < 64) ∧ ∀ ys : List Str, ys.Nodup → (∀ y, y ∈ ys ↔ y ∈ sgsS z) → sortedS ys = true → Q ys n) := fun n σ Hs H k Qd q Q wq =>
  ha n σ Hs H k _ q _ fun z n1 v Hs1 H1 q1 k1 s1 r1 => by
    rw [rep_str r1]
    refine ⟨z, rfl, q1.1.1, fun p2 np2 => ⟨p2, _, rfl, upd_same, q1.1.2, fun ys p3 pp so np3 => ?_⟩⟩
    have k2 := k1.allocU (o := SetXO P w p2 (ddS (sgsS z))) np2
    have x2 := k1.extU (o := SetXO P w p2 (ddS (sgsS z))) np2
    have nw := k2.newU (vs := ys.map V.str) np3
    refine wq ys n1 p3 _ Hs1 _ (q1.2 ys (pp.nodup_iff.mpr (ddS_nd _)) (fun y => by rw [pp.mem_iff, ddS_mem]) so) nw.1 ((s1.trans x2).trans nw.2.2) (nw.2.1.back (s1.trans x2)) rep_strs
theorem ev_lenSet {m : M (List Str)} (ha : ElM f te env m) : EvM f (tCB (rLenX P w) (tCons (tCB (rSetXOf K P w) (tCons te tNil)) tNil)) env (bnd m fun xs => need (xs.length ≤ 1000) (ret (((ddS xs).length : Nat) : Int))) := fun n σ Hs H k Qd q Q wq =>
  ha n σ Hs H k _ q _ fun xs n1 p vs Hs1 H1 q1 k1 s1 np h1 r1 => by
    rw [repS_vals r1] at h1
    refine ⟨p, xs, rfl, SqL.of h1, q1.1, fun p2 np2 => ⟨p2, ddS xs, rfl, upd_same, Nat.le_trans (ddS_len xs) q1.1, ?_⟩⟩
    have k2 := k1.allocU (o := SetXO P w p2 (ddS xs)) np2
    have x2 := k1.extU (o := SetXO P w p2 (ddS xs)) np2
    exact wq _ n1 _ Hs1 _ q1.2 k2 (s1.trans x2) (.int _)
end
section
variable {X : Cx} {K : PySem.W.Frag}
theorem crK_setXOf (h : X.K = K) (hc : X.calm = true) : CallR X (.type "set") (rSetXOf K X.prog X.w) := by subst h; exact cr_setXOf hc
end
end WH
namespace WH
open PySem PySem.Spec PyProof.Rows L2
open Enc (enc)
open EncL (encl)
section
variable {f : Fr} {env : DE} {α β γ : Type} [Enc α] [Enc β] [Enc γ] {ta tb tc : TE} {D : Ends} {n : Int} {σ : Sl} {Hs H : Hp}
/-- three at once: two new lists and a thing -/
theorem go_par3 {ma : M (List α)} {mb : M (List β)} {mc : M γ} {Qd : List α → Int → Prop} {Rd : List α → List β → Int → Prop} {Sq : List α → List β → γ → Int → Prop} {i j l : Nat} (hij : i ≠ j) (ok : OkS f env n σ Hs H) (ha : EnM f ta env ma) (hb : EnM f tb env mb) (hc : EvM f tc env mc)
    (hm : ma n Qd) (hq : ∀ a n', Qd a n' → mb n' (Rd a)) (hr : ∀ a b n', Rd a b n' → mc n' (Sq a b))
    (w : ∀ a b c n' σ' Hs' H', Sq a b c n' → OkS f (((env.set i (some (.ow (a.map enc)))).set j (some (.ow (b.map enc)))).set l (some (.sh (enc c)))) n' σ' Hs' H' → D.nx σ' H') : tPar3 i j l (tCons ta (tCons tb (tCons tc tNil))) D σ H :=
  ha n σ Hs H ok _ hm _ fun a n1 p vs Hs1 H1 q1 k1 s1 nw1 r1 => hb n1 σ Hs1 H1 k1 _ (hq a n1 q1) _ fun b n2 p2 us Hs2 H2 q2 k2 s2 nw2 r2 => hc n2 σ Hs2 H2 k2 _ (hr a b n2 q2) _ fun c n3 u Hs3 H3 q3 k3 s3 r3 => ⟨_, _, _, rfl, w a b c n3 _ Hs3 H3 q3 (by
    have hp2 := s2.k p _ (k1.notP (.inl nw1.h0)) nw1.h
    have hs2 := s2.u p _ (.inl nt_lst) nw1.h nw1.hs
    have hp3 := s3.k p _ (k1.notP (.inl nw1.h0)) hp2
    have hs3 := s3.u p _ (.inl nt_lst) hp2 hs2
    have hg3 := s3.k p2 _ (k2.notP (.inl nw2.h0)) nw2.h
    have hz3 := s3.u p2 _ (.inl nt_lst) nw2.h nw2.hs
    refine ((k3.setO hp3 hs3 nw1.h0 (r1.same (s2.s.trans s3.s)) nw1.nu).setO hg3 hz3 nw2.h0 (r2.same s3.s) (nw2.nu.set (fun _ z => ?_) (fun z => by cases z))).setS r3
    have z : p = p2 := by simpa using z
    have := nw2.n
    rw [← z, nw1.h] at this
    cases this)⟩
theorem repL_strE {C : CK} {H : Hp} {vs : List V} : ∀ {xs : List Str}, RepL C H vs (xs.map enc) → vs = xs.map V.str := by
  induction vs with
  | nil =>
    intro xs h
    cases xs with
    | nil => rfl
    | cons x xs => cases h
  | cons v vs ih =>
    intro xs h
    cases xs with
    | nil => cases h
    | cons x xs =>
      cases h with
      | cons a b => rw [rep_str a, ih b]; rfl
/-- x in a tuple of texts -/
theorem ev_inTup {K : PySem.W.Frag} {neg : Bool} {ma : M Str} {mb : M β} (g : β → List Str) (hg : ∀ b, enc b = Dt.tup ((g b).map enc)) (ha : EvM f ta env ma) (hb : EvM f tb env mb) : EvM f (tOp (rIn f.C.k neg) ta tb) env (bnd ma fun a => bnd mb fun b => ret (if neg then !decide (a ∈ g b) else decide (a ∈ g b))) :=
  ev_bin (mr := fun (a : Str) (b : β) => ret (if neg then !decide (a ∈ g b) else decide (a ∈ g b))) (fun x y a b n σ Hs H k rx ry Qd q Q w => by
    rw [hg] at ry
    obtain ⟨p, vs, rfl, h1, h2⟩ := rep_tup ry
    rw [repL_strE h2] at h1
    rw [rep_str rx]
    refine ⟨p, _, rfl, .inr (sqRd (rdUp h1 k.sub)), rfl, flat_strs (g b), w _ n _ Hs H q k .refl ?_⟩
    rw [inV_strs]
    exact .bl _) ha hb
end
end WH
namespace WH
open PySem PySem.Spec PyProof.Rows L2
open Enc (enc)
open EncL (encl)
/-- a number drawn -/
def m_law_draw (k : Int) : M Int := fun n Q => (n < 1000000 ∧ 0 < k ∧ k < 21827015817904833863457681603012246715478074452379864515884587103873627449560106895696963969707827128890654172547448324051715628724804051079035421417909404592607864048874622226578923008109489266041467794720428782962225818417335587552808143703377466447327078929528071553890997418125176297836982738649704147131182816329760549952182677382067300396177662137568983831207677967583314011706544357376) ∧ ∀ d : Int, 0 ≤ d → d < k → Q d (n + 1)
def m_is_letters (z : Str) : M Bool := fun n Q => z.length ≤ 100000 ∧ Q (isL z) n
def m_is_word (z : Str) : M Bool := fun n Q => z.length ≤ 100000 ∧ Q (isW z) n
end WH
namespace WH
open PySem PySem.Spec PyProof.Rows L2
open Enc (enc)
open EncL (encl)
/-! ### isinstance(x, T) of data, T a built-in type -/
def isiD (d : Dt) (T : String) : Bool := decide (tyD d = T) || (decide (tyD d = "bool") && decide (T = "int"))
theorem kit_all : ∀ a ∈ ["int", "str", "bool", "NoneType", "list", "tuple", "dict"], ∀ b ∈ ["int", "str", "list", "tuple"], kitB a b = some (decide (a = b) || (decide (a = "bool") && decide (b = "int"))) := by
  intro a ha b hb
  simp only [List.mem_cons, List.not_mem_nil, or_false] at ha hb
  rcases ha with rfl | rfl | rfl | rfl | rfl | rfl | rfl <;> rcases hb with rfl | rfl | rfl | rfl <;> first | decide +kernel | kernel_rfl
theorem tyX_of {C : CK} {H : Hp} {v : V} {d : Dt} (r : Rep C H v d) (h : notStk d) : TyX C.k H v (.type (tyD d)) := by
  cases r with
  | non => exact .base .non
  | bl b => exact .base (.bl b)
  | int i => exact .base (.int i)
  | str x => exact .base (.str x)
  | lst h1 _ => exact .base (.lst h1)
  | tup h1 _ =>
    rcases h1 with (h1 | ⟨o, h1⟩) | ⟨o, its, m, h1, h2, _⟩
    · exact .base (.tup h1)
    · exact .fTuple h1
    · exact .kTuple h1 h2
  | stk _ => exact h.elim
  | dic h1 _ _ => exact .base (.dK h1)
  | dct _ _ => exact h.elim
theorem tyD_in6 {d : Dt} (h : notStk d) : tyD d ∈ ["int", "str", "bool", "NoneType", "list", "tuple", "dict"] := by
  cases d <;> first | exact h.elim | simp [tyD]
section
variable {f : Fr} {env : DE} {α : Type} [Enc α] {ta te : TE}
theorem ev_isi {m : M α} {T : String} (hT : T ∈ ["int", "str", "list", "tuple"]) (h : EvM f ta env m) : EvM f (tCB (rIsi f.C.k) (tCons ta (tCons (tC (.ty T)) tNil))) env (bnd m fun a => need (notStk (enc a)) (ret (isiD (enc a) T))) := fun n σ Hs H k Qd q Q w =>
  h n σ Hs H k _ q _ fun a n1 v Hs1 H1 q1 k1 s1 r1 => ⟨v, _, _, _, _, rfl, .ty T, tyX_of (r1.same k1.sub) q1.1, kit_ty (kit_all _ (tyD_in6 q1.1) _ hT), w _ n1 _ Hs1 H1 q1.2 k1 s1 (.bl _)⟩
/-- something of any kind is put to a list of one's own, which is known no more then -/
theorem go_appendD {D : Ends} {n : Int} {σ : Sl} {Hs H : Hp} {m : M α} {Qd : α → Int → Prop} {i : Nat} {β : Type} [Enc β] {xs : List β} (ok : OkS f env n σ Hs H) (hi : env[i]? = some (some (.ow (xs.map enc)))) (he : EvM f te env m) (hm : m n fun a n' => xs.length ≤ LIM ∧ Qd a n')
    (w : ∀ a n' σ' Hs' H', Qd a n' → OkS f (env.set i none) n' σ' Hs' H' → D.nx σ' H') : tDrop (tBM f.C.k "list" rAppend (tVar i) (tCons te tNil)) D σ H := by
  obtain ⟨a, vs, h1, h2, h3, h4⟩ := ok.ow hi
  refine ⟨.ref a, h1, .inl ⟨rfl, _, SqL.of h2⟩, he n σ Hs H ok _ hm _ fun y n' v Hs' H' q k s r => ?_⟩
  have h2' := s.k a _ (ok.notP (.inl h4)) h2
  have hl := h3.len
  rw [List.length_map] at hl
  have k2 := k.write hi h1 (vs := vs ++ [v]) (ds' := xs.map enc ++ [enc y]) ((h3.same s.s).app (.cons r .nil))
  refine ⟨a, vs, v, rfl, rfl, h2', lim_lt (by rw [hl]; exact q.1), w y n' σ Hs' _ q.2 (k2.weak (by rw [List.length_set]; exact k.len) fun j e h => ?_)⟩
  rcases getset h with ⟨_, rfl⟩ | ⟨ne, h⟩
  · exact .inl rfl
  · exact .inr ⟨by rw [List.getElem?_set_ne ne]; exact h, rfl⟩
end
section
variable {X : Cx} {K : PySem.W.Frag}
theorem callK_isi (h : X.K = K) : CallR X (.builtin "isinstance") (rIsi K) := by subst h; exact call_isi
end
end WH
namespace WH
open PySem PySem.Spec PyProof.Rows L2
open Enc (enc)
open EncL (encl)
section
variable {f : Fr} {env : DE} {β : Type} [Enc β] {te : TE}
theorem lend' {n : Int} {σ : Sl} {Hs H : Hp} {i : Nat} {xs : List β} (hi : env[i]? = some (some (.ow (xs.map enc)))) (ok : OkS f env n σ Hs H) : ∃ a vs, H a = some (.lst vs) ∧ RepL f.C Hs vs (xs.map enc) ∧ OkS f (env.set i (some (.sh (enc xs)))) n σ (upd Hs a (.lst vs)) H ∧
    ∀ n' Hs' H', OkS f (env.set i (some (.sh (enc xs)))) n' σ Hs' H' → Ext f (upd Hs a (.lst vs)) H Hs' H' → OkS f env n' σ (less Hs' a) H' ∧ Ext f Hs H (less Hs' a) H' := by
  obtain ⟨_, k, _, a, vs, h1, h2, rfl, h4, h5⟩ := ok.freeze hi
  obtain ⟨a0, vs0, z1, z2, z3, z4⟩ := ok.ow hi
  rw [h1] at z1
  obtain rfl := V.ref.inj (Option.some.inj (Option.some.inj z1))
  rw [h4] at z2
  obtain rfl := HO.lst.inj (Option.some.inj z2)
  refine ⟨a, vs, h4, z3, k, fun n' Hs' H' k' x => ?_⟩
  have ex : Ext f Hs H (less Hs' a) H' := ⟨fun b o e => by
    have z : b ≠ a := ne_of_none e h2
    unfold less
    rw [if_neg z]
    exact x.s b o (by rw [upd_ne z]; exact e), x.k, x.t, fun b o nt e nb => by
    unfold less
    by_cases z : b = a
    · rw [if_pos z]
    · rw [if_neg z]
      exact x.u b o nt e (by rw [upd_ne z]; exact nb)⟩
  exact ⟨ok.ext ex (fun b o e => by
    unfold less at e
    by_cases z : b = a
    · rw [if_pos z] at e
      cases e
    · rw [if_neg z] at e
      exact k'.sub b o e) fun p hp => (k'.pool p hp).1, ex⟩
/-- a list of tuples lent to what tells None or a list of texts, not empty: that is another list -/
theorem ev_lendOS {i : Nat} {xs : List β} (ht : ∀ x : β, ∃ ds, enc x = .tup ds) {m : M (Option (List Str))} (hi : env[i]? = some (some (.ow (xs.map enc)))) (h : EvM f te (env.set i (some (.sh (enc xs)))) m) : EvM f te env (bnd m fun r => need (r ≠ some []) (ret r)) := fun n σ Hs H ok Qd q Q w => by
  obtain ⟨a, vs, z2, z3, k, back⟩ := lend' hi ok
  refine h n σ _ H k _ q _ fun c n' v Hs' H' qc k' x r => ?_
  obtain ⟨k2, x2⟩ := back _ _ _ k' x
  refine w c n' v _ H' qc.2 k2 x2 ?_
  have ha : Hs' a = some (.lst vs) := x.s a _ upd_same
  match c, qc, r with
  | none, _, r => cases r; exact .non
  | some [], qc, _ => exact absurd rfl qc.1
  | some (y :: l), _, r =>
    obtain ⟨b, us, rfl, h1, h2⟩ := rep_lst (xs := y :: l) r
    refine .lst (vs := us) ?_ (flatL (xs := y :: l) h2)
    unfold less
    rw [if_neg ?_]
    · exact h1
    rintro rfl
    rw [ha] at h1
    obtain rfl := HO.lst.inj (Option.some.inj h1)
    cases h2 with
    | cons h3 h4 =>
      cases h3
      match xs, z3 with
      | x0 :: xs, z3 =>
        cases z3 with
        | cons g1 g2 =>
          obtain ⟨ds, e⟩ := ht x0
          rw [e] at g1
          cases g1
end
end WH
namespace WH
open PySem PySem.Spec PyProof.Rows L2
open Enc (enc)
open EncL (encl)
/-! ### dicts whose keys are texts, as data -/
def Dic.get? {α : Type} (d : Dic α) (k : Str) : Option α := (d.kvs.find? fun p => decide (p.1 = k)).map (·.2)
theorem kvZ_val {C : CK} {H : Hp} {α : Type} [Enc α] (k : Str) : ∀ {l : List (Str × α)} {vs : List V}, RepL C H vs (l.map fun p => enc p.2) →
    (∀ a, (Dic.mk l).get? k = some a → ∃ v, valV (kvZ (l.map (·.1)) vs) (.inr k) = some v ∧ Rep C H v (enc a)) ∧ ((Dic.mk l).get? k = none → valV (kvZ (l.map (·.1)) vs) (.inr k) = none)
  | [], _, h => by
    cases h
    exact ⟨fun a e => by simp [Dic.get?] at e, fun _ => rfl⟩
  | p :: l, _, h => by
    cases h with
    | @cons v vs _ _ h1 h2 =>
      obtain ⟨i1, i2⟩ := kvZ_val k h2
      have e0 : kvZ ((p :: l).map (·.1)) (v :: vs) = (Sum.inr p.1, v) :: kvZ (l.map (·.1)) vs := rfl
      rw [e0]
      by_cases c : p.1 = k
      · have g : (Dic.mk (p :: l)).get? k = some p.2 := by simp [Dic.get?, List.find?_cons, c]
        rw [g]
        refine ⟨fun a e => ?_, fun e => by cases e⟩
        obtain rfl := Option.some.inj e
        exact ⟨v, valV_pos (by rw [c]), h1⟩
      · have g : (Dic.mk (p :: l)).get? k = (Dic.mk l).get? k := by simp [Dic.get?, List.find?_cons, c]
        rw [g, valV_neg (by intro e; exact c (Sum.inr.inj e))]
        exact ⟨i1, i2⟩
theorem rep_dic {C : CK} {H : Hp} {v : V} {α : Type} [Enc α] {d : Dic α} (h : Rep C H v (enc d)) : ∃ a vs, v = .ref a ∧ H a = some (.dK (kvZ (d.kvs.map (·.1)) vs)) ∧ RepL C H vs (d.kvs.map fun p => enc p.2) := by
  cases h with
  | dic h1 h2 h3 => exact ⟨_, _, rfl, h1, h3⟩
theorem putK_mem {kvs : List (Key × V)} {k : Key} {v : V} (h : ∀ p ∈ kvs, p.1 ≠ k) : putK kvs k v = kvs ++ [(k, v)] := by
  unfold putK
  rw [if_neg]
  intro e
  obtain ⟨p, hp, e⟩ := List.any_eq_true.mp e
  exact h p hp (of_decide_eq_true e)
theorem merge_new : ∀ (more acc : List (Key × V)), ((acc ++ more).map (·.1)).Nodup → more.foldl (fun acc kv => putK acc kv.1 kv.2) acc = acc ++ more
  | [], acc, _ => by simp
  | p :: more, acc, nd => by
    rw [List.foldl_cons, putK_mem, merge_new more _ (by rwa [List.append_assoc]), List.append_assoc]
    · rfl
    · intro q hq e
      rw [List.map_append, List.nodup_append] at nd
      exact nd.2.2 q.1 (List.mem_map.mpr ⟨q, hq, rfl⟩) p.1 (by simp) e
section
variable {f : Fr} {env : DE} {α β : Type} [Enc α] [Enc β] {ta tb te td tk tx : TE}
/-- d[k] -/
theorem ev_dget {md : M (Dic α)} {mk : M Str} (hd : EvM f td env md) (hk : EvM f tk env mk) : EvM f (tDGet td tk) env (bnd md fun d => bnd mk fun k => fun n Q => ∃ a, d.get? k = some a ∧ Q a n) := fun n σ Hs H k Qd q Q w =>
  hd n σ Hs H k _ q _ fun d n1 x Hs1 H1 q1 k1 s1 r1 => hk n1 σ Hs1 H1 k1 _ q1 _ fun z n2 y Hs2 H2 q2 k2 s2 r2 => by
    obtain ⟨a, ea, q3⟩ := q2
    obtain ⟨p, vs, rfl, h1, h2⟩ := rep_dic (r1.same s2.s)
    obtain ⟨v, v1, v2⟩ := (kvZ_val z h2).1 a ea
    rw [rep_str r2]
    refine ⟨p, v, rfl, ?_, w a n2 v Hs2 H2 q3 k2 (s1.trans s2) v2⟩
    have := DGet.k (k := Sum.inr z) (k2.sub _ _ h1)
    rw [v1] at this
    exact this
/-- d.get(k, x) -/
theorem ev_dget2 {md : M (Dic α)} {mk : M Str} {mx : M α} (hd : EvM f td env md) (hk : EvM f tk env mk) (hx : EvM f tx env mx) : EvM f (tDGet2 td tk tx) env (bnd md fun d => bnd mk fun k => bnd mx fun x => ret ((d.get? k).getD x)) := fun n σ Hs H k Qd q Q w =>
  hd n σ Hs H k _ q _ fun d n1 x Hs1 H1 q1 k1 s1 r1 => by
    obtain ⟨p, vs, rfl, h1, h2⟩ := rep_dic r1
    refine ⟨p, rfl, .inl ⟨_, .inl (k1.sub _ _ h1)⟩, hk n1 σ Hs1 H1 k1 _ q1 _ fun z n2 y Hs2 H2 q2 k2 s2 r2 => hx n2 σ Hs2 H2 k2 _ q2 _ fun a n3 u Hs3 H3 q3 k3 s3 r3 => ?_⟩
    have h1' := (s2.trans s3).s _ _ h1
    have h2' := h2.same (s2.trans s3).s
    obtain ⟨i1, i2⟩ := kvZ_val z h2'
    rw [rep_str r2]
    have g := DGet.k (k := Sum.inr z) (k3.sub _ _ h1')
    refine ⟨_, g, ?_⟩
    cases e : d.get? z with
    | some b =>
      obtain ⟨v, v1, v2⟩ := i1 b e
      rw [e] at q3
      rw [v1]
      exact w b n3 v Hs3 H3 q3 k3 (s1.trans (s2.trans s3)) v2
    | none =>
      rw [e] at q3
      rw [i2 e]
      exact w a n3 u Hs3 H3 q3 k3 (s1.trans (s2.trans s3)) r3
/-- dict(ps), ps of unlike keys -/
def rDictP (K : PySem.W.Frag) : List V → Hp → VK → Prop := fun xs H Q => ∃ (a : Addr) (ps : List Addr) (kvs : List (Key × V)), xs = [.ref a] ∧ SqL K H a (ps.map V.ref) ∧ Paired (fun p kv => SqT K H p [kV kv.1, kv.2]) ps kvs ∧
    ∀ p, H p = none → Q (.ref p) (upd H p (.dK (mergeK [] kvs)))
theorem pairs_of {C : CK} {Hs H : Hp} (s : Same Hs H) : ∀ {l : List (Str × α)} {vs : List V}, RepL C Hs vs (l.map enc) → ∃ (ps : List Addr) (us : List V), vs = ps.map V.ref ∧ us.length = l.length ∧ RepL C Hs us (l.map fun p => enc p.2) ∧ Paired (fun p kv => SqT C.k H p [kV kv.1, kv.2]) ps (kvZ (l.map (·.1)) us)
  | [], _, h => by
    cases h
    exact ⟨[], [], rfl, rfl, .nil, .nil⟩
  | p :: l, _, h => by
    cases h with
    | @cons v vs _ _ h1 h2 =>
      obtain ⟨ps, us, e1, e2, e3, e4⟩ := pairs_of s h2
      obtain ⟨a, ws, rfl, g1, g2⟩ := rep_tup (ds := [.str p.1, enc p.2]) h1
      cases g2 with
      | @cons w1 ws _ _ g2 g3 =>
        cases g3 with
        | @cons w2 ws _ _ g3 g4 =>
          cases g4
          cases g2
          exact ⟨a :: ps, w2 :: us, by rw [e1]; rfl, by rw [List.length_cons, List.length_cons, e2], .cons g3 e3, .cons (sqRd (rdUp g1 s)) e4⟩
theorem ev_dictP {m : M (List (Str × α))} (hm : EvM f te env m) : EvM f (tCB (rDictP f.C.k) (tCons te tNil)) env (bnd m fun ps => need ((ps.map (·.1)).Nodup) (ret (Dic.mk ps))) := fun n σ Hs H k Qd q Q w =>
  hm n σ Hs H k _ q _ fun l n1 v Hs1 H1 q1 k1 s1 r1 => by
    obtain ⟨a, vs, rfl, h1, h2⟩ := rep_lst r1
    obtain ⟨ps, us, rfl, e2, e3, e4⟩ := pairs_of k1.sub h2
    refine ⟨a, ps, _, rfl, SqL.of (k1.sub _ _ h1), e4, fun p np => ?_⟩
    have nd : ((([] : List (Key × V)) ++ kvZ (l.map (·.1)) us).map (·.1)).Nodup := by
      have e : (kvZ (l.map (·.1)) us).map (·.1) = (l.map (·.1)).map (Sum.inr : Str → Key) := by
        unfold kvZ
        rw [List.map_map]
        have : ((·.1) ∘ fun p : Str × V => ((Sum.inr p.1 : Key), p.2)) = (Sum.inr : Str → Key) ∘ (·.1) := rfl
        rw [this, ← List.map_map, List.map_fst_zip]
        rw [List.length_map, e2]
        exact Nat.le_refl _
      rw [List.nil_append, e]
      exact List.pairwise_map.mpr (q1.1.imp fun h g => h (Sum.inr.inj g))
    have em : mergeK [] (kvZ (l.map (·.1)) us) = kvZ (l.map (·.1)) us := merge_new _ [] nd
    rw [em]
    refine w (Dic.mk l) n1 (.ref p) (upd Hs1 p _) _ q1.2 (k1.allocS np) (s1.trans (k1.extS np)) ?_
    exact .dic upd_same (by rw [List.length_map, e2]) (e3.same (same_upd (k1.hs np)))
end
section
variable {X : Cx} {K : PySem.W.Frag}
theorem callK_dictP (h : X.K = K) (hc : X.calm = true) : CallR X (.type "dict") (rDictP K) := by subst h; exact call_dictP hc
end
end WH
namespace WH
open PySem PySem.Spec PyProof.Rows L2
open Enc (enc)
open EncL (encl)
/-- what is never come to -/
theorem pss_no {X : Cx} {b : List Stmt} : PSs X b (fun _ _ _ => False) := ⟨fun _ _ _ _ _ _ h => h.elim⟩
section
variable {f : Fr} {env : DE} {α β : Type} [Enc α] [Enc β] {ta tb te tl td tk tx : TE} {K : PySem.W.Frag} {P : Program} {w : World}
/-- a // b of great numbers -/
theorem ev_fdivW {ma mb : M Int} (ha : EvM f ta env ma) (hb : EvM f tb env mb) : EvM f (tOp (rI CDivW fun i j => .int (i / j)) ta tb) env (bnd ma fun a => bnd mb fun b => need (CDivW a b) (ret (a / b))) := ev_I (r := fun a b => a / b) (fun i j H => .int _) ha hb
/-- gcd(a, b) -/
theorem ev_gcd {ma mb : M Int} (ha : EvM f ta env ma) (hb : EvM f tb env mb) : EvM f (tCB rGcd (tCons ta (tCons tb tNil))) env (bnd ma fun a => bnd mb fun b => ret ((Nat.gcd a.natAbs b.natAbs : Nat) : Int)) := fun n σ Hs H k Qd q Q wq =>
  ha n σ Hs H k _ q _ fun a n1 x Hs1 H1 q1 k1 s1 r1 => hb n1 σ Hs1 H1 k1 _ q1 _ fun b n2 y Hs2 H2 q2 k2 s2 r2 => by
    rw [rep_int r1, rep_int r2]
    exact ⟨a, b, rfl, wq _ n2 _ Hs2 H2 q2 k2 (s1.trans s2) (.int _)⟩
/-- bs.count(b) -/
theorem ev_countB {ml : M (List Bool)} {mb : M Bool} (hl : ElM f tl env ml) (hb : EvM f tb env mb) : EvM f (tBM K "list" (rCntB K) tl (tCons tb tNil)) env (bnd ml fun bs => bnd mb fun b => ret ((bs.count b : Nat) : Int)) := fun n σ Hs H k Qd q Q wq =>
  hl n σ Hs H k _ q _ fun bs n1 p vs Hs1 H1 q1 k1 s1 np hp r1 => by
    rw [repL_bl r1] at hp
    refine ⟨.inl ⟨rfl, _, SqL.of hp⟩, hb n1 σ Hs1 H1 k1 _ q1 _ fun b n2 y Hs2 H2 q2 k2 s2 r2 => ?_⟩
    rw [rep_bl r2]
    exact ⟨p, bs, b, rfl, rfl, SqL.of (s2.k p _ np hp), wq _ n2 _ Hs2 H2 q2 k2 (s1.trans s2) (.int _)⟩
/-- bs.index(b) -/
theorem ev_indexB {ml : M (List Bool)} {mb : M Bool} (hl : ElM f tl env ml) (hb : EvM f tb env mb) : EvM f (tBM K "list" (rIndex K) tl (tCons tb tNil)) env (bnd ml fun bs => bnd mb fun b => fun n Q => ∃ j : Nat, bs[j]? = some b ∧ (∀ m : Nat, m < j → bs[m]? ≠ some b) ∧ Q ((j : Nat) : Int) n) := fun n σ Hs H k Qd q Q wq =>
  hl n σ Hs H k _ q _ fun bs n1 p vs Hs1 H1 q1 k1 s1 np hp r1 => by
    rw [repL_bl r1] at hp
    refine ⟨.inl ⟨rfl, _, SqL.of hp⟩, hb n1 σ Hs1 H1 k1 _ q1 _ fun b n2 y Hs2 H2 q2 k2 s2 r2 => ?_⟩
    rw [rep_bl r2]
    obtain ⟨j, e1, e2, q2⟩ := q2
    refine ⟨p, bs.map V.bl, .bl b, j, .bl b, rfl, rfl, SqL.of (s2.k p _ np hp), rfl, ?_, ?_, ?_, fun m z hm hz => ?_, wq _ n2 _ Hs2 H2 q2 k2 (s1.trans s2) (.int _)⟩
    · rw [List.all_map]
      exact List.all_eq_true.mpr fun _ _ => rfl
    · rw [List.getElem?_map, e1]
      rfl
    · show (b == b) = true
      exact beq_self_eq_true b
    · rw [List.getElem?_map] at hz
      cases c : bs[m]? with
      | none => rw [c] at hz; cases hz
      | some b' =>
        rw [c] at hz
        obtain rfl := Option.some.inj hz
        show (b' == b) = false
        refine beq_eq_false_iff_ne.mpr fun z => e2 m hm (by rw [c, z])
/-- {k1: a, k2: b}, the keys texts -/
theorem ev_disp2 {k1 k2 : Str} (ne : k1 ≠ k2) {ma mb : M α} (ha : EvM f ta env ma) (hb : EvM f tb env mb) : EvM f (tDisp [(tC (.str k1), ta), (tC (.str k2), tb)]) env (bnd ma fun a => bnd mb fun b => ret (Dic.mk [(k1, a), (k2, b)])) := fun n σ Hs H k Qd q Q wq p np => by
  have k0 := k.allocU (o := .dK []) np
  have x0 : Ext f Hs H Hs (upd H p (.dK [])) := ⟨Same.refl _, fun a o _ e => same_upd np _ _ e, fun a e => by
    by_cases z : a = p
    · rw [z]; exact np
    · rw [upd_ne z] at e; exact e, fun _ _ _ _ e => e⟩
  have hs := k.hs np
  have h0 := k.h0 np
  have nu := k.own_ne np
  refine ha n σ Hs _ k0 _ q _ fun a n1 x Hs1 H1 q1 kk1 s1 r1 => hb n1 σ Hs1 H1 kk1 _ q1 _ fun b n2 y Hs2 H2 q2 kk2 s2 r2 => ?_
  have x2 := s1.trans s2
  have nP : some p ≠ f.P := fun z => (k.pool p z.symm).2.2 h0
  have hp2 : H2 p = some (.dK []) := x2.k p _ nP upd_same
  have hs2 : Hs2 p = none := x2.u p _ (.inl (fun _ z => by cases z)) upd_same hs
  refine ⟨hp2, [(.inr k1, x), (.inr k2, y)], rfl, (by show 2 ≤ 15; decide), ?_⟩
  have em : mergeK [] [(Sum.inr k1, x), (Sum.inr k2, y)] = kvZ [k1, k2] [x, y] := by
    unfold mergeK
    rw [merge_new _ [] (by simp [ne])]
    rfl
  rw [em]
  have kw := kk2.writeU (o := .dK (kvZ [k1, k2] [x, y])) hs2 h0 nu
  have ks := kw.share upd_same hs2 h0 nu
  have sm := same_upd (o := .dK (kvZ [k1, k2] [x, y])) hs2
  have xf : Ext f Hs H (upd Hs2 p (.dK (kvZ [k1, k2] [x, y]))) (upd H2 p (.dK (kvZ [k1, k2] [x, y]))) := ⟨(x0.trans x2).s.trans sm, fun c o nb e => by
    rw [upd_ne (ne_of_none e np)]
    exact (x0.trans x2).k c o nb e, fun c e => by
    by_cases z : c = p
    · rw [z]; exact np
    · rw [upd_ne z] at e; exact (x0.trans x2).t c e, fun c o nt e nb => by
    rw [upd_ne (ne_of_none e np)]
    exact (x0.trans x2).u c o nt e nb⟩
  exact wq (Dic.mk [(k1, a), (k2, b)]) n2 _ _ _ q2 ks xf (.dic upd_same rfl (.cons ((r1.same s2.s).same sm) (.cons (r2.same sm) .nil)))
/-- a new list is changed, and known no more -/
theorem go_newApp {D : Ends} {n : Int} {σ : Sl} {Hs H : Hp} {m : M (List α)} {ma : M β} {Qd : Int → Prop} (ok : OkS f env n σ Hs H) (he : EnM f te env m) (ha : EvM f ta env ma) (hm : m n fun xs n1 => ma n1 fun _ n2 => xs.length ≤ LIM ∧ Qd n2)
    (wk : ∀ n' Hs' H', Qd n' → OkS f env n' σ Hs' H' → D.nx σ H') : tDrop (tBM K "list" rAppend te (tCons ta tNil)) D σ H :=
  he n σ Hs H ok _ hm _ fun xs n1 p vs Hs1 H1 q1 k1 s1 nw r1 => by
    refine ⟨.inl ⟨rfl, _, SqL.of nw.h⟩, ha n1 σ Hs1 H1 k1 _ q1 _ fun a n2 v Hs2 H2 q2 k2 s2 r2 => ?_⟩
    have nP : some p ≠ f.P := k1.notP (.inl nw.h0)
    have hp := s2.k p _ nP nw.h
    have hs := s2.u p _ (.inl nt_lst) nw.h nw.hs
    have hl := r1.len
    rw [List.length_map] at hl
    exact ⟨p, vs, v, rfl, rfl, hp, lim_lt (by rw [hl]; exact q2.1), wk n2 Hs2 _ q2.2 (k2.writeU hs nw.h0 nw.nu)⟩
end
end WH
/-! the place of a text in a list of texts -/
namespace WH
open PySem PySem.Spec PyProof.Rows L2
open Enc (enc)
open EncL (encl)
section
variable {f : Fr} {env : DE} {α β : Type} [Enc α] [Enc β] {ta tb te tl td tk tx : TE} {K : PySem.W.Frag} {P : Program} {w : World}
theorem ev_indexS {ml : M (List Str)} {mb : M Str} (hl : ElM f tl env ml) (hb : EvM f tb env mb) : EvM f (tBM K "list" (rIndex K) tl (tCons tb tNil)) env (bnd ml fun bs => bnd mb fun b => fun n Q => ∃ j : Nat, bs[j]? = some b ∧ (∀ m : Nat, m < j → bs[m]? ≠ some b) ∧ Q ((j : Nat) : Int) n) := fun n σ Hs H k Qd q Q wq =>
  hl n σ Hs H k _ q _ fun bs n1 p vs Hs1 H1 q1 k1 s1 np hp r1 => by
    rw [repL_str r1] at hp
    refine ⟨.inl ⟨rfl, _, SqL.of hp⟩, hb n1 σ Hs1 H1 k1 _ q1 _ fun b n2 y Hs2 H2 q2 k2 s2 r2 => ?_⟩
    rw [rep_str r2]
    obtain ⟨j, e1, e2, q2⟩ := q2
    refine ⟨p, bs.map V.str, .str b, j, .str b, rfl, rfl, SqL.of (s2.k p _ np hp), rfl, ?_, ?_, ?_, fun m z hm hz => ?_, wq _ n2 _ Hs2 H2 q2 k2 (s1.trans s2) (.int _)⟩
    · rw [List.all_map]
      exact List.all_eq_true.mpr fun _ _ => rfl
    · rw [List.getElem?_map, e1]
      rfl
    · show (b == b) = true
      exact beq_self_eq_true b
    · rw [List.getElem?_map] at hz
      cases c : bs[m]? with
      | none => rw [c] at hz; cases hz
      | some b' =>
        rw [c] at hz
        obtain rfl := Option.some.inj hz
        show (b' == b) = false
        refine beq_eq_false_iff_ne.mpr fun z => e2 m hm (by rw [c, z])
end
end WH
namespace WH
open PySem PySem.Spec PyProof.Rows L2
open Enc (enc)
open EncL (encl)
section
variable {f : Fr} {env : DE} {ta tb : TE} {ma mb : M Int}
theorem ev_shl (ha : EvM f ta env ma) (hb : EvM f tb env mb) : EvM f (tOp (rI CPow fun i j => .int (i * 2 ^ j.toNat)) ta tb) env (bnd ma fun a => bnd mb fun b => need (CPow a b) (ret (a * 2 ^ b.toNat))) := ev_I (r := fun a b => a * 2 ^ b.toNat) (fun i j H => .int _) ha hb
end
end WH
namespace WH
open PySem PySem.Spec PyProof.Rows L2
open Enc (enc)
open EncL (encl)
/-- k keywords, the last one first -/
def gRev {α : Type} (k : Nat) (us ws : List α) : List α := if us = [] ∧ ws.length = k then ws.reverse else []
theorem gRev_rel {k : Nat} {vs : List V} {us : List Value} {zs : List V} {ws : List Value} (h1 : Vals vs us) (h2 : Vals zs ws) : Vals (gRev k vs zs) (gRev k us ws) := by
  have e1 : vs = [] ↔ us = [] := by cases h1 <;> simp
  have rv : ∀ {a : List V} {b : List Value}, Vals a b → Vals a.reverse b.reverse := by
    intro a b h
    induction h with
    | nil => exact .nil
    | cons p _ ih =>
      rw [List.reverse_cons, List.reverse_cons]
      exact ih.append (.cons p .nil)
  unfold gRev
  by_cases c : us = [] ∧ ws.length = k
  · rw [if_pos c, if_pos ⟨e1.mpr c.1, by rw [h2.length]; exact c.2⟩]
    exact rv h2
  · rw [if_neg c, if_neg fun d => c ⟨e1.mp d.1, by rw [← h2.length]; exact d.2⟩]
    exact .nil
theorem gRev_spec {α : Type} {k : Nat} {us ws : List α} (hk : 0 < k) (h : (gRev k us ws).length = k) : us = [] ∧ ws.length = k ∧ gRev k us ws = ws.reverse := by
  unfold gRev at h ⊢
  by_cases c : us = [] ∧ ws.length = k
  · exact ⟨c.1, c.2, if_pos c⟩
  · rw [if_neg c] at h
    exact absurd h (by simp; omega)
theorem RepL.appR {C : CK} {H : Hp} {a b : List V} {x y : List Dt} (h : RepL C H a x) (g : RepL C H b y) : RepL C H (a ++ b) (x ++ y) := by
  induction a generalizing x with
  | nil =>
    cases h
    exact g
  | cons v a ih =>
    cases h with
    | cons p q => exact .cons p (ih q)
theorem rp_rev {τ τ' : Type} [EncL τ] [EncL τ'] {k : Nat} {r : τ' → τ} (hk : ∀ x : τ', (encl x).length = k) (hr : ∀ x : τ', encl (r x) = (encl x).reverse) (C : CK) (H : Hp) (vs : List V) (x : τ') (h : RepL C H vs (encl x)) : RepL C H (gRev k [] vs) (encl (r x)) := by
  unfold gRev
  rw [if_pos ⟨rfl, by rw [h.len, hk]⟩, hr]
  generalize encl x = ds at h
  clear hk hr
  induction vs generalizing ds with
  | nil =>
    cases h
    exact .nil
  | cons v vs ih =>
    cases h with
    | cons p q =>
      rw [List.reverse_cons, List.reverse_cons]
      exact (ih _ q).appR (.cons p .nil)
end WH
namespace WH
open PySem PySem.Spec PyProof.Rows L2
open Enc (enc)
open EncL (encl)
theorem callK_sortedSL {X : Cx} {K : PySem.W.Frag} (h : X.K = K) : CallR X (.builtin "sorted") (rSortedSL K) := by
  subst h
  exact cr_sortedSL
theorem crK_setXOfL {X : Cx} {K : PySem.W.Frag} (h : X.K = K) (hc : X.calm = true) : CallR X (.type "set") (rSetXOfL K X.prog X.w) := by
  subst h
  exact cr_setXOfL hc
section
variable {f : Fr} {env : DE} {te ta : TE} {K : PySem.W.Frag} {P : Program} {w : World}
theorem en_sortedSL {m : M (List Str)} (ha : ElM f ta env m) : EnM f (tCB (rSortedSL K) (tCons ta tNil)) env (bnd m fun xs => fun n Q => ∀ ys : List Str, ys.Perm xs → sortedS ys = true → Q ys n) :=
  en_cbL (mr := fun (xs : List Str) => fun n Q => ∀ ys : List Str, ys.Perm xs → sortedS ys = true → Q ys n) (fun p vs a n σ Hs H k h1 h2 Qd q Q w => by
    rw [repL_str h2] at h1
    refine ⟨p, a, rfl, SqL.of h1, fun ys l hp hs nl => ?_⟩
    obtain ⟨k2, nw, x2⟩ := k.newU (vs := ys.map V.str) nl
    exact w ys n l _ Hs _ (q ys hp hs) k2 x2 nw rep_strs) ha
theorem en_sortedSetL {m : M (List Str)} (ha : ElM f te env m) : EnM f (tCB (rSortedXL P w) (tCons (tCB (rSetXOfL K P w) (tCons te tNil)) tNil)) env
    (bnd m fun xs => fun n Q => xs.length ≤ 4094 ∧ ∀ ys : List Str, ys.Nodup → (∀ y, y ∈ ys ↔ y ∈ xs) → sortedS ys = true → Q ys n) := fun n σ Hs H k Qd q Q wq =>
  ha n σ Hs H k _ q _ fun xs n1 p vs Hs1 H1 q1 k1 s1 np h1 r1 => by
    rw [repS_vals r1] at h1
    refine ⟨p, xs, rfl, SqL.of h1, q1.1, fun p2 np2 => ⟨p2, ddS xs, rfl, upd_same, Nat.le_trans (ddS_len xs) (Nat.le_trans q1.1 (by decide)), fun ys p3 pp so np3 => ?_⟩⟩
    have k2 := k1.allocU (o := SetXO P w p2 (ddS xs)) np2
    have x2 := k1.extU (o := SetXO P w p2 (ddS xs)) np2
    have nw := k2.newU (vs := ys.map V.str) np3
    refine wq ys n1 p3 _ Hs1 _ (q1.2 ys (pp.nodup_iff.mpr (ddS_nd xs)) (fun y => by rw [pp.mem_iff, ddS_mem]) so) nw.1 ((s1.trans x2).trans nw.2.2) (nw.2.1.back (s1.trans x2)) rep_strs
end
end WH
namespace WH
open PySem PySem.Spec PyProof.Rows L2
open Enc (enc)
open EncL (encl)
def m_ends_with (v_word : Str) (v_text : Str) (v_end : Int) (v_made : (List Bool)) : M Bool := fun n Q =>
  (bnd (ret v_end) fun a => bnd (bnd (ret v_word) fun z => need (z.length ≤ LIM) (ret ((z.length : Nat) : Int))) fun b => ret (a - b)) n fun v_start1 n => (andM (bnd (ret v_start1) fun a => bnd (ret (0 : Int)) fun b => ret (decide (b ≤ a))) (andM (bnd (ret v_text) fun a => bnd (ret v_word) fun b => bnd (ret v_start1) fun i => ret (Txt.startswith3 a b i)) (bnd (ret v_made) fun xs => bnd (ret v_start1) fun i => atM xs i))) n Q

def m_is_made (v_words : (List Str)) (v_text : Str) : M Bool := fun n Q =>
  (bnd (ret true) fun a => bnd (ret []) fun r => ret (a :: r)) n fun v_made1 n => (bnd (ret (1 : Int)) fun i => bnd (bnd (bnd (ret v_text) fun z => need (z.length ≤ LIM) (ret ((z.length : Nat) : Int))) fun a => bnd (ret (1 : Int)) fun b => ret (a + b)) fun j => need (-1000000 ≤ i ∧ i ≤ 1000000 ∧ -1000000 ≤ j ∧ j ≤ 1000000) (ret (intsUp i (j - i).toNat))) n fun l7 n => forW (fun (x_3 : Int) (s2 : (List Bool)) n Nx => (bnd (bnd (ret v_words) fun xs => need (xs.length ≤ LIM) (cmpW xs fun c_word6 => turnM (ret (true : Bool)) (bnd (bnd (ret c_word6) fun a => bnd (bnd (ret v_text) fun a => bnd (bnd (ret x_3) fun a => bnd (bnd (ret s2) fun a => bnd (ret ()) fun r => ret (a, r)) fun r => ret (a, r)) fun r => ret (a, r)) fun r => ret (a, r)) fun x => pc (m_ends_with x.1 x.2.1 x.2.2.1 x.2.2.2.1)))) fun bs => ret (bs.any id)) n fun a_4 n => (s2).length ≤ LIM ∧ (Nx (s2 ++ [a_4]) n)) (fun (s2 : (List Bool)) n => (bnd (ret s2) fun xs => bnd (bnd (ret v_text) fun z => need (z.length ≤ LIM) (ret ((z.length : Nat) : Int))) fun i => atM xs i) n Q) l7 v_made1 n

def m_rest_between (v_one : Str) (v_other : Str) : M Str := fun n Q =>
  (bnd (ret v_other) fun a => bnd (ret v_one) fun b => ret (Txt.startswith a b)) n fun b1 n => (b1 = true → (bnd (ret v_other) fun z => bnd (bnd (bnd (ret v_one) fun z => need (z.length ≤ LIM) (ret ((z.length : Nat) : Int))) fun i => ret (some i)) fun lo => bnd (ret none) fun hi => need (z.length ≤ LIM) (ret (cutS z lo hi))) n Q) ∧ (b1 = false → (bnd (ret v_one) fun a => bnd (ret v_other) fun b => ret (Txt.startswith a b)) n fun b2 n => (b2 = true → (bnd (ret v_one) fun z => bnd (bnd (bnd (ret v_other) fun z => need (z.length ≤ LIM) (ret ((z.length : Nat) : Int))) fun i => ret (some i)) fun lo => bnd (ret none) fun hi => need (z.length ≤ LIM) (ret (cutS z lo hi))) n Q) ∧ (b2 = false → (ret ("" : Str)) n Q))

def m_beginning_pairs (v_words : (List Str)) : M (List (Int × Int)) := fun n Q =>
  (bnd (ret v_words) fun xs => ret ((xs.length : Nat) : Int)) n fun v_numbers1 n => (bnd (need (-1000000 ≤ v_numbers1 ∧ v_numbers1 ≤ 1000000) (ret (intsUp 0 (v_numbers1).toNat))) fun xs => need (xs.length ≤ 900) (cmpC xs fun c_begin2 => bnd (need (-1000000 ≤ v_numbers1 ∧ v_numbers1 ≤ 1000000) (ret (intsUp 0 (v_numbers1).toNat))) fun ys => need (ys.length ≤ 1000) (cmpW ys fun c_number3 => turnM (andM (bnd (ret c_begin2) fun a => bnd (ret c_number3) fun b => ret (!decide (a = b))) (bnd (bnd (ret v_words) fun xs => bnd (ret c_number3) fun i => atM xs i) fun a => bnd (bnd (ret v_words) fun xs => bnd (ret c_begin2) fun i => atM xs i) fun b => ret (Txt.startswith a b))) (bnd (ret c_begin2) fun a0 => bnd (ret c_number3) fun a1 => ret (a0, a1))))) n Q

def m_texts_behind (v_words : (List Str)) (v_text : Str) (v_rest : Str) : M (List (Str × Str)) := fun n Q =>
  (ret ([] : (List (Str × Str)))) n fun v_told1 n => (ret v_words) n fun l8 n => forW (fun (x_3 : Str) (s2 : (List (Str × Str))) n Nx => (bnd (ret x_3) fun a => bnd (ret v_rest) fun b => ret (Txt.startswith a b)) n fun b4 n => (b4 = true → (bnd (bnd (ret v_text) fun a => bnd (bnd (ret x_3) fun z => bnd (bnd (bnd (ret v_rest) fun z => need (z.length ≤ LIM) (ret ((z.length : Nat) : Int))) fun i => ret (some i)) fun lo => bnd (ret none) fun hi => need (z.length ≤ LIM) (ret (cutS z lo hi))) fun b => need (a.length + b.length ≤ LIM) (ret (a ++ b))) fun a0 => bnd (bnd (ret x_3) fun z => bnd (bnd (bnd (ret v_rest) fun z => need (z.length ≤ LIM) (ret ((z.length : Nat) : Int))) fun i => ret (some i)) fun lo => bnd (ret none) fun hi => need (z.length ≤ LIM) (ret (cutS z lo hi))) fun a1 => ret (a0, a1)) n fun a_5 n => (s2).length ≤ LIM ∧ (Nx (s2 ++ [a_5]) n)) ∧ (b4 = false → (bnd (ret v_rest) fun a => bnd (ret x_3) fun b => ret (Txt.startswith a b)) n fun b6 n => (b6 = true → (bnd (ret v_text) fun a0 => bnd (bnd (ret v_rest) fun z => bnd (bnd (bnd (ret x_3) fun z => need (z.length ≤ LIM) (ret ((z.length : Nat) : Int))) fun i => ret (some i)) fun lo => bnd (ret none) fun hi => need (z.length ≤ LIM) (ret (cutS z lo hi))) fun a1 => ret (a0, a1)) n fun a_7 n => (s2).length ≤ LIM ∧ (Nx (s2 ++ [a_7]) n)) ∧ (b6 = false → Nx s2 n))) (fun (s2 : (List (Str × Str))) n => Q s2 n) l8 v_told1 n

def m_least_text (v_words : (List Str)) : M (Option Str) := fun n Q =>
  (bnd (bnd (bnd (ret v_words) fun a => bnd (ret ()) fun r => ret (a, r)) fun x => pc (m_beginning_pairs x.1)) fun xs => need (xs.length ≤ LIM) (cmpW xs fun c_begin1 => turnM (ret (true : Bool)) (bnd (bnd (bnd (ret v_words) fun xs => bnd (ret c_begin1.2) fun i => atM xs i) fun z => need (z.length ≤ LIM) (ret ((z.length : Nat) : Int))) fun a0 => bnd (bnd (ret v_words) fun xs => bnd (ret c_begin1.2) fun i => atM xs i) fun a1 => bnd (bnd (bnd (bnd (ret v_words) fun xs => bnd (ret c_begin1.1) fun i => atM xs i) fun a => bnd (bnd (bnd (ret v_words) fun xs => bnd (ret c_begin1.2) fun i => atM xs i) fun a => bnd (ret ()) fun r => ret (a, r)) fun r => ret (a, r)) fun x => pc (m_rest_between x.1 x.2.1)) fun a2 => ret (T3.mk a0 a1 a2)))) n fun v_queue2 n => heapM v_queue2 n fun h_4 n => ∃ k, whileW (fun (s5 : (List (T3 Int Str Str)) × (List Str)) => (bnd (ret s5.1) fun xs => ret (!xs.isEmpty))) (fun (s5 : (List (T3 Int Str Str)) × (List Str)) n Nx => popHM s5.1 n fun z16 n => (fun (p7 : (T3 Int Str Str)) (h_6 : (List (T3 Int Str Str))) => (bnd (ret p7.c) fun a => bnd (ret ("" : Str)) fun b => ret (decide (a = b))) n fun b8 n => (b8 = true → (bnd (ret p7.b) fun a => ret (some a)) n Q) ∧ (b8 = false → (bnd (ret p7.c) fun x => ret (if true then !decide (x ∈ s5.2) else decide (x ∈ s5.2))) n fun b9 n => (b9 = true → (ret p7.c) n fun a_10 n => (s5.2).length ≤ 1000 ∧ ((bnd (bnd (ret v_words) fun a => bnd (bnd (ret p7.b) fun a => bnd (bnd (ret p7.c) fun a => bnd (ret ()) fun r => ret (a, r)) fun r => ret (a, r)) fun r => ret (a, r)) fun x => pc (m_texts_behind x.1 x.2.1 x.2.2.1)) n fun l15 n => forW (fun (x_12 : (Str × Str)) (s11 : (List (T3 Int Str Str))) n Nx => (bnd (bnd (ret x_12.1) fun z => need (z.length ≤ LIM) (ret ((z.length : Nat) : Int))) fun a0 => bnd (ret x_12.1) fun a1 => bnd (ret x_12.2) fun a2 => ret (T3.mk a0 a1 a2)) n fun a_14 n => pushHM s11 a_14 n fun h_13 n => Nx h_13 n) (fun (s11 : (List (T3 Int Str Str))) n => Nx (s11, (if a_10 ∈ s5.2 then s5.2 else s5.2 ++ [a_10])) n) l15 h_6 n)) ∧ (b9 = false → Nx (h_6, s5.2) n))) z16.1 z16.2) (fun (s5 : (List (T3 Int Str Str)) × (List Str)) n => (bnd (ret ()) fun _ => ret (none : (Option Str))) n Q) k (h_4, ([] : List Str)) n

def m_check_one_way (v_stock : Stk) : M Unit := fun n Q =>
  (bnd (bnd (bnd (ret v_stock) fun s => ret s.ws) fun a => bnd (ret ()) fun r => ret (a, r)) fun x => pc (m_least_text x.1)) n fun v_text1 n => (bnd (ret v_text1) fun o => ret o.isSome) n fun b2 n => (b2 = true → False) ∧ (b2 = false → Q () n)

def m_counts_to (v_words : (List Str)) (v_length : Int) : M (List Int) := fun n Q =>
  (bnd (ret (1 : Int)) fun a => bnd (ret []) fun r => ret (a :: r)) n fun v_many1 n => (bnd (ret (1 : Int)) fun i => bnd (bnd (ret v_length) fun a => bnd (ret (1 : Int)) fun b => ret (a + b)) fun j => need (-1000000 ≤ i ∧ i ≤ 1000000 ∧ -1000000 ≤ j ∧ j ≤ 1000000) (ret (intsUp i (j - i).toNat))) n fun l6 n => forW (fun (x_3 : Int) (s2 : (List Int)) n Nx => (bnd (bnd (ret v_words) fun xs => need (xs.length ≤ LIM) (cmpW xs fun c_word5 => turnM (bnd (bnd (ret c_word5) fun z => need (z.length ≤ LIM) (ret ((z.length : Nat) : Int))) fun a => bnd (ret x_3) fun b => ret (decide (a ≤ b))) (bnd (ret s2) fun xs => bnd (bnd (ret x_3) fun a => bnd (bnd (ret c_word5) fun z => need (z.length ≤ LIM) (ret ((z.length : Nat) : Int))) fun b => ret (a - b)) fun i => atM xs i))) fun bs => ret (bs.sum)) n fun a_4 n => (s2).length ≤ LIM ∧ (Nx (s2 ++ [a_4]) n)) (fun (s2 : (List Int)) n => Q s2 n) l6 v_many1 n

def m_check_length (v_length : Int) : M Unit := fun n Q =>
  (bnd (ret v_length) fun a => bnd (ret (0 : Int)) fun b => ret (decide (a < b))) n fun b1 n => (b1 = true → False) ∧ (b1 = false → Q () n)

def m_count_texts (v_stock : Stk) (v_length : Int) : M Int := fun n Q =>
  (bnd (bnd (ret v_stock) fun a => bnd (ret ()) fun r => ret (a, r)) fun x => pc (m_check_one_way x.1)) n fun u2 n => (bnd (bnd (ret v_length) fun a => bnd (ret ()) fun r => ret (a, r)) fun x => pc (m_check_length x.1)) n fun u1 n => (bnd (bnd (bnd (bnd (ret v_stock) fun s => ret s.ws) fun a => bnd (bnd (ret v_length) fun a => bnd (ret ()) fun r => ret (a, r)) fun r => ret (a, r)) fun x => pc (m_counts_to x.1 x.2.1)) fun xs => bnd (ret v_length) fun i => atM xs i) n Q

def m_letters_in (v_words : (List Str)) : M (List Str) := fun n Q =>
  (bnd (bnd (ret ("" : Str)) fun a => bnd (ret v_words) fun ys => need ((ys.map (·.length)).sum + ys.length * a.length ≤ 16777216) (ret (Txt.join a ys))) fun z => fun n Q => (z.length ≤ 1000 ∧ (ddS (sgsS z)).length < 64) ∧ ∀ ys : List Str, ys.Nodup → (∀ y, y ∈ ys ↔ y ∈ sgsS z) → sortedS ys = true → Q ys n) n Q

def m_ends_behind (v_words : (List Str)) (v_ends : (List Str)) (v_sign : Str) : M (List Str) := fun n Q =>
  (iteM (bnd (ret ("" : Str)) fun a => bnd (ret v_ends) fun b => ret (if false then !decide (a ∈ b) else decide (a ∈ b))) (ret v_words) (ret ([] : (List Str)))) n fun v_begun1 n => (bnd (bnd (ret v_ends) fun a => bnd (ret v_begun1) fun b => need (a.length + b.length ≤ LIM) (ret (a ++ b))) fun xs => need (xs.length ≤ LIM) (cmpW xs fun c_end2 => turnM (bnd (ret c_end2) fun a => bnd (ret v_sign) fun b => ret (Txt.startswith a b)) (bnd (ret c_end2) fun z => bnd (bnd (ret (1 : Int)) fun i => ret (some i)) fun lo => bnd (ret none) fun hi => need (z.length ≤ LIM) (ret (cutS z lo hi))))) n Q

def m_count_completed (v_many : (List Int)) (v_ends : (List Str)) (v_length : Int) : M Int := fun n Q =>
  (bnd (bnd (ret v_ends) fun xs => need (xs.length ≤ LIM) (cmpW xs fun c_end1 => turnM (bnd (bnd (ret c_end1) fun z => need (z.length ≤ LIM) (ret ((z.length : Nat) : Int))) fun a => bnd (ret v_length) fun b => ret (decide (a ≤ b))) (bnd (ret v_many) fun xs => bnd (bnd (ret v_length) fun a => bnd (bnd (ret c_end1) fun z => need (z.length ≤ LIM) (ret ((z.length : Nat) : Int))) fun b => ret (a - b)) fun i => atM xs i))) fun bs => ret (bs.sum)) n Q

def m_letter_at_index (v_words : (List Str)) (v_many : (List Int)) (v_ends : (List Str)) (v_behind : Int) (v_index : Int) : M (Str × Int) := fun n Q =>
  (bnd (bnd (ret v_words) fun a => bnd (ret ()) fun r => ret (a, r)) fun x => pc (m_letters_in x.1)) n fun v_letters1 n => (ret (0 : Int)) n fun v_number2 n => (ret v_index) n fun v_left3 n => (bnd (bnd (ret v_many) fun a => bnd (bnd (bnd (bnd (ret v_words) fun a => bnd (bnd (ret v_ends) fun a => bnd (bnd (bnd (ret v_letters1) fun xs => bnd (ret (0 : Int)) fun i => atM xs i) fun a => bnd (ret ()) fun r => ret (a, r)) fun r => ret (a, r)) fun r => ret (a, r)) fun x => pc (m_ends_behind x.1 x.2.1 x.2.2.1)) fun a => bnd (bnd (ret v_behind) fun a => bnd (ret ()) fun r => ret (a, r)) fun r => ret (a, r)) fun r => ret (a, r)) fun x => pc (m_count_completed x.1 x.2.1 x.2.2.1)) n fun v_count4 n => ∃ k, whileW (fun (s5 : Int × Int × Int) => (bnd (ret s5.2.1) fun a => bnd (ret s5.2.2) fun b => ret (decide (b ≤ a)))) (fun (s5 : Int × Int × Int) n Nx => bnd (ret s5.2.2) (fun a => ret (s5.2.1 - a)) n fun v_left6 n => bnd (ret (1 : Int)) (fun a => ret (s5.1 + a)) n fun v_number7 n => (bnd (bnd (ret v_many) fun a => bnd (bnd (bnd (bnd (ret v_words) fun a => bnd (bnd (ret v_ends) fun a => bnd (bnd (bnd (ret v_letters1) fun xs => bnd (ret v_number7) fun i => atM xs i) fun a => bnd (ret ()) fun r => ret (a, r)) fun r => ret (a, r)) fun r => ret (a, r)) fun x => pc (m_ends_behind x.1 x.2.1 x.2.2.1)) fun a => bnd (bnd (ret v_behind) fun a => bnd (ret ()) fun r => ret (a, r)) fun r => ret (a, r)) fun r => ret (a, r)) fun x => pc (m_count_completed x.1 x.2.1 x.2.2.1)) n fun v_count8 n => Nx (v_number7, v_left6, v_count8) n) (fun (s5 : Int × Int × Int) n => (bnd (bnd (ret v_letters1) fun xs => bnd (ret s5.1) fun i => atM xs i) fun a0 => bnd (ret s5.2.1) fun a1 => ret (a0, a1)) n Q) k (v_number2, v_left3, v_count4) n

def m_nth_text (v_stock : Stk) (v_length : Int) (v_index : Int) : M Str := fun n Q =>
  (bnd (bnd (ret v_stock) fun a => bnd (ret ()) fun r => ret (a, r)) fun x => pc (m_check_one_way x.1)) n fun u14 n => (bnd (bnd (ret v_length) fun a => bnd (ret ()) fun r => ret (a, r)) fun x => pc (m_check_length x.1)) n fun u13 n => (bnd (ret v_stock) fun s => ret s.ws) n fun v_words1 n => (bnd (bnd (ret v_words1) fun a => bnd (bnd (ret v_length) fun a => bnd (ret ()) fun r => ret (a, r)) fun r => ret (a, r)) fun x => pc (m_counts_to x.1 x.2.1)) n fun v_many2 n => (notM (bnd (ret (0 : Int)) fun a => bnd (ret v_index) fun b => fun n Q => (decide (a ≤ b) = true → (bnd (bnd (ret v_many2) fun xs => bnd (ret v_length) fun i => atM xs i) fun c => ret (decide (b < c))) n Q) ∧ (decide (a ≤ b) = false → Q false n))) n fun b3 n => (b3 = true → False) ∧ (b3 = false → (ret ([] : (List Str))) n fun v_signs4 n => (bnd (ret ("" : Str)) fun a => bnd (ret []) fun r => ret (a :: r)) n fun v_ends5 n => (ret v_index) n fun v_left6 n => (bnd (ret v_length) fun j => need (0 ≤ j ∧ j ≤ 1000000) (ret (intsUp 0 j.toNat).reverse)) n fun l12 n => forW (fun (x_8 : Int) (s7 : (List Str) × (List Str) × Int) n Nx => (bnd (bnd (ret v_words1) fun a => bnd (bnd (ret v_many2) fun a => bnd (bnd (ret s7.2.1) fun a => bnd (bnd (ret x_8) fun a => bnd (bnd (ret s7.2.2) fun a => bnd (ret ()) fun r => ret (a, r)) fun r => ret (a, r)) fun r => ret (a, r)) fun r => ret (a, r)) fun r => ret (a, r)) fun x => pc (m_letter_at_index x.1 x.2.1 x.2.2.1 x.2.2.2.1 x.2.2.2.2.1)) n fun p9 n => (ret p9.1) n fun a_10 n => (s7.1).length ≤ LIM ∧ ((bnd (bnd (ret v_words1) fun a => bnd (bnd (ret s7.2.1) fun a => bnd (bnd (ret p9.1) fun a => bnd (ret ()) fun r => ret (a, r)) fun r => ret (a, r)) fun r => ret (a, r)) fun x => pc (m_ends_behind x.1 x.2.1 x.2.2.1)) n fun v_ends11 n => Nx ((s7.1 ++ [a_10]), v_ends11, p9.2) n)) (fun (s7 : (List Str) × (List Str) × Int) n => (bnd (ret ("" : Str)) fun a => bnd (ret s7.1) fun ys => need ((ys.map (·.length)).sum + ys.length * a.length ≤ 16777216) (ret (Txt.join a ys))) n Q) l12 (v_signs4, v_ends5, v_left6) n)

def m_text_index (v_stock : Stk) (v_text : Str) : M Int := fun n Q =>
  (bnd (bnd (ret v_stock) fun a => bnd (ret ()) fun r => ret (a, r)) fun x => pc (m_check_one_way x.1)) n fun u18 n => (bnd (ret v_stock) fun s => ret s.ws) n fun v_words1 n => (notM (bnd (bnd (ret v_words1) fun a => bnd (bnd (ret v_text) fun a => bnd (ret ()) fun r => ret (a, r)) fun r => ret (a, r)) fun x => pc (m_is_made x.1 x.2.1))) n fun b2 n => (b2 = true → False) ∧ (b2 = false → (bnd (bnd (ret v_words1) fun a => bnd (bnd (bnd (ret v_text) fun z => need (z.length ≤ LIM) (ret ((z.length : Nat) : Int))) fun a => bnd (ret ()) fun r => ret (a, r)) fun r => ret (a, r)) fun x => pc (m_counts_to x.1 x.2.1)) n fun v_many3 n => (bnd (bnd (ret v_words1) fun a => bnd (ret ()) fun r => ret (a, r)) fun x => pc (m_letters_in x.1)) n fun v_letters4 n => (ret (0 : Int)) n fun v_index5 n => (bnd (ret ("" : Str)) fun a => bnd (ret []) fun r => ret (a :: r)) n fun v_ends6 n => (bnd (ret v_text) fun z => need (z.length ≤ LIM) (ret ((z.length : Nat) : Int))) n fun v_behind7 n => (bnd (ret v_text) fun z => ret (signs z)) n fun l17 n => forW (fun (x_9 : Str) (s8 : Int × (List Str) × Int) n Nx => bnd (ret (1 : Int)) (fun a => ret (s8.2.2 - a)) n fun v_behind10 n => (bnd (ret v_letters4) fun xs => need (xs.length ≤ LIM) (cmpW xs fun c_letter11 => turnM (bnd (ret c_letter11) fun a => bnd (ret x_9) fun b => ret (decide (a.cps.toList < b.cps.toList))) (bnd (bnd (ret v_words1) fun a => bnd (bnd (ret s8.2.1) fun a => bnd (bnd (ret c_letter11) fun a => bnd (ret ()) fun r => ret (a, r)) fun r => ret (a, r)) fun r => ret (a, r)) fun x => pc (m_ends_behind x.1 x.2.1 x.2.2.1)))) n fun v_less12 n => bnd (bnd (bnd (ret v_less12) fun xs => need (xs.length ≤ LIM) (cmpW xs fun c_told14 => turnM (ret (true : Bool)) (bnd (bnd (ret v_many3) fun a => bnd (bnd (ret c_told14) fun a => bnd (bnd (ret v_behind10) fun a => bnd (ret ()) fun r => ret (a, r)) fun r => ret (a, r)) fun r => ret (a, r)) fun x => pc (m_count_completed x.1 x.2.1 x.2.2.1)))) fun bs => ret (bs.sum)) (fun a => ret (s8.1 + a)) n fun v_index15 n => (bnd (bnd (ret v_words1) fun a => bnd (bnd (ret s8.2.1) fun a => bnd (bnd (ret x_9) fun a => bnd (ret ()) fun r => ret (a, r)) fun r => ret (a, r)) fun r => ret (a, r)) fun x => pc (m_ends_behind x.1 x.2.1 x.2.2.1)) n fun v_ends16 n => Nx (v_index15, v_ends16, v_behind10) n) (fun (s8 : Int × (List Str) × Int) n => (ret s8.1) n Q) l17 (v_index5, v_ends6, v_behind7) n)

def m_law_word (v_widest : Int) (v_signs : Str) : M Str := fun n Q =>
  (bnd (ret ("" : Str)) fun a => bnd (bnd (bnd (bnd (ret (1 : Int)) fun a => bnd (bnd (bnd (ret v_widest) fun a => bnd (ret ()) fun r => ret (a, r)) fun x => m_law_draw x.1) fun b => ret (a + b)) fun j => need (-1000000 ≤ j ∧ j ≤ 1000000) (ret (intsUp 0 j.toNat))) fun xs => need (xs.length ≤ LIM) (cmpW xs fun c_turn1 => turnM (ret (true : Bool)) (bnd (ret v_signs) fun z => bnd (bnd (bnd (bnd (ret v_signs) fun z => need (z.length ≤ LIM) (ret ((z.length : Nat) : Int))) fun a => bnd (ret ()) fun r => ret (a, r)) fun x => m_law_draw x.1) fun i => fun n Q => z.length ≤ LIM ∧ ∃ c, atI z.cps.toList i = some c ∧ Q (⟨#[c]⟩ : Str) n))) fun ys => need ((ys.map (·.length)).sum + ys.length * a.length ≤ 16777216) (ret (Txt.join a ys))) n Q

def m_law_lot (v_many : Int) (v_widest : Int) : M (List Str) := fun n Q =>
  (bnd (bnd (ret ("ab" : Str)) fun a => bnd (bnd (ret ("ab" : Str)) fun a => bnd (bnd (ret ("abc" : Str)) fun a => bnd (bnd (ret ("zq" : Str)) fun a => bnd (bnd (ret ("abcdefghijklmnopqrstuvwxyz" : Str)) fun a => bnd (ret []) fun r => ret (a :: r)) fun r => ret (a :: r)) fun r => ret (a :: r)) fun r => ret (a :: r)) fun r => ret (a :: r)) fun xs => bnd (bnd (bnd (ret (5 : Int)) fun a => bnd (ret ()) fun r => ret (a, r)) fun x => m_law_draw x.1) fun i => atM xs i) n fun v_signs1 n => (ret ([] : (List Str))) n fun v_found2 n => (bnd (bnd (ret (1 : Int)) fun a => bnd (bnd (bnd (ret v_many) fun a => bnd (ret ()) fun r => ret (a, r)) fun x => m_law_draw x.1) fun b => ret (a + b)) fun j => need (-1000000 ≤ j ∧ j ≤ 1000000) (ret (intsUp 0 j.toNat))) n fun l19 n => forW (fun (x_4 : Int) (s3 : (List Str)) n Nx => (bnd (bnd (ret v_widest) fun a => bnd (bnd (ret v_signs1) fun a => bnd (ret ()) fun r => ret (a, r)) fun r => ret (a, r)) fun x => m_law_word x.1 x.2.1) n fun v_fresh5 n => (bnd (bnd (ret (6 : Int)) fun a => bnd (ret ()) fun r => ret (a, r)) fun x => m_law_draw x.1) n fun v_way6 n => joinM (fun (s12 : Str) n => (andM (bnd (bnd (ret s12) fun z => need (z.length ≤ LIM) (ret ((z.length : Nat) : Int))) fun a => bnd (ret v_widest) fun b => ret (decide (a ≤ b))) (bnd (ret s12) fun a => bnd (ret s3) fun b => ret (if true then !decide (a ∈ b) else decide (a ∈ b)))) n fun b17 n => (b17 = true → (ret s12) n fun a_18 n => (s3).length ≤ LIM ∧ (Nx (s3 ++ [a_18]) n)) ∧ (b17 = false → Nx s3 n)) fun J => (andM (bnd (ret s3) fun a => bnd (ret ([] : (List Str))) fun b => need (okD (enc a) = true ∧ okD (enc b) = true) (ret (!eqD (enc a) (enc b)))) (bnd (ret v_way6) fun a => bnd (ret (3 : Int)) fun b => ret (decide (a < b)))) n fun b7 n => (b7 = true → (bnd (ret s3) fun xs => bnd (bnd (bnd (bnd (ret s3) fun xs => ret ((xs.length : Nat) : Int)) fun a => bnd (ret ()) fun r => ret (a, r)) fun x => m_law_draw x.1) fun i => atM xs i) n fun v_left13 n => (bnd (ret s3) fun xs => bnd (bnd (bnd (bnd (ret s3) fun xs => ret ((xs.length : Nat) : Int)) fun a => bnd (ret ()) fun r => ret (a, r)) fun x => m_law_draw x.1) fun i => atM xs i) n fun v_right14 n => (bnd (ret (1 : Int)) fun a => bnd (bnd (bnd (bnd (ret v_left13) fun z => need (z.length ≤ LIM) (ret ((z.length : Nat) : Int))) fun a => bnd (ret ()) fun r => ret (a, r)) fun x => m_law_draw x.1) fun b => ret (a + b)) n fun v_cut15 n => (bnd (bnd (bnd (ret v_left13) fun a => bnd (ret v_right14) fun b => need (a.length + b.length ≤ LIM) (ret (a ++ b))) fun a => bnd (bnd (bnd (ret v_left13) fun z => bnd (ret none) fun lo => bnd (bnd (ret v_cut15) fun i => ret (some i)) fun hi => need (z.length ≤ LIM) (ret (cutS z lo hi))) fun a => bnd (bnd (bnd (bnd (ret v_left13) fun z => bnd (bnd (bnd (ret v_cut15) fun a => bnd (ret (1 : Int)) fun b => ret (a - b)) fun i => ret (some i)) fun lo => bnd (ret none) fun hi => need (z.length ≤ LIM) (ret (cutS z lo hi))) fun a => bnd (bnd (ret v_right14) fun z => bnd (ret none) fun lo => bnd (bnd (ret (1 : Int)) fun i => ret (some i)) fun hi => need (z.length ≤ LIM) (ret (cutS z lo hi))) fun b => need (a.length + b.length ≤ LIM) (ret (a ++ b))) fun a => bnd (ret []) fun r => ret (a :: r)) fun r => ret (a :: r)) fun r => ret (a :: r)) fun xs => bnd (ret v_way6) fun i => atM xs i) n fun v_fresh16 n => J v_fresh16 n) ∧ (b7 = false → J v_fresh5 n)) (fun (s3 : (List Str)) n => Q s3 n) l19 v_found2 n

def m_law_known  : M (List Str) := fun n Q =>
  (bnd (ret ("a ab ba" : Str)) fun a => bnd (bnd (ret ("aab ab aba" : Str)) fun a => bnd (bnd (ret ("a ab bb" : Str)) fun a => bnd (bnd (ret ("aa aaa" : Str)) fun a => bnd (bnd (ret ("ab abab" : Str)) fun a => bnd (bnd (ret ("a ba" : Str)) fun a => bnd (bnd (ret ("abab" : Str)) fun a => bnd (bnd (ret ("a b" : Str)) fun a => bnd (bnd (ret ("ab abb baab" : Str)) fun a => bnd (ret []) fun r => ret (a :: r)) fun r => ret (a :: r)) fun r => ret (a :: r)) fun r => ret (a :: r)) fun r => ret (a :: r)) fun r => ret (a :: r)) fun r => ret (a :: r)) fun r => ret (a :: r)) fun r => ret (a :: r)) n fun v_some1 n => (bnd (ret v_some1) fun a => bnd (bnd (ret ("aa ab ba bb" : Str)) fun a => bnd (bnd (ret ("a ab" : Str)) fun a => bnd (bnd (ret ("abc bcd cda dab" : Str)) fun a => bnd (bnd (ret ("aba bab" : Str)) fun a => bnd (bnd (ret ("ab ba" : Str)) fun a => bnd (bnd (ret ("a abb bbab" : Str)) fun a => bnd (ret []) fun r => ret (a :: r)) fun r => ret (a :: r)) fun r => ret (a :: r)) fun r => ret (a :: r)) fun r => ret (a :: r)) fun r => ret (a :: r)) fun b => need (a.length + b.length ≤ LIM) (ret (a ++ b))) n fun v_some2 n => (bnd (ret v_some2) fun a => bnd (bnd (ret ("aaaaaaaa aaaaaaa" : Str)) fun a => bnd (bnd (ret ("b ab aab aaab" : Str)) fun a => bnd (ret []) fun r => ret (a :: r)) fun r => ret (a :: r)) fun b => need (a.length + b.length ≤ LIM) (ret (a ++ b))) n fun v_some3 n => (bnd (bnd (ret v_some3) fun xs => bnd (bnd (bnd (ret (17 : Int)) fun a => bnd (ret ()) fun r => ret (a, r)) fun x => m_law_draw x.1) fun i => atM xs i) fun a => bnd (ret (" " : Str)) fun b => need ((b.length == 0) = false ∧ a.length + 2 ≤ sizeLine) (ret (Txt.split a b))) n Q

def m_law_rests (v_lot : (List Str)) : M ((List Str) × Bool) := fun n Q =>
  (ret ([] : (List Str))) n fun v_waiting1 n => (ret ([] : (List Str))) n fun v_found2 n => (ret false) n fun v_is_alike3 n => (ret v_lot) n fun l25 n => forW (fun (x_5 : Str) (s4 : (List Str)) n Nx => (ret v_lot) n fun l10 n => forW (fun (x_7 : Str) (s6 : (List Str)) n Nx => (andM (bnd (ret x_7) fun a => bnd (ret x_5) fun b => ret (!decide (a = b))) (bnd (bnd (ret x_7) fun z => bnd (ret none) fun lo => bnd (bnd (bnd (ret x_5) fun z => need (z.length ≤ LIM) (ret ((z.length : Nat) : Int))) fun i => ret (some i)) fun hi => need (z.length ≤ LIM) (ret (cutS z lo hi))) fun a => bnd (ret x_5) fun b => ret (decide (a = b)))) n fun b8 n => (b8 = true → (bnd (ret x_7) fun z => bnd (bnd (bnd (ret x_5) fun z => need (z.length ≤ LIM) (ret ((z.length : Nat) : Int))) fun i => ret (some i)) fun lo => bnd (ret none) fun hi => need (z.length ≤ LIM) (ret (cutS z lo hi))) n fun a_9 n => (s6).length ≤ LIM ∧ (Nx (s6 ++ [a_9]) n)) ∧ (b8 = false → Nx s6 n)) (fun (s6 : (List Str)) n => Nx s6 n) l10 s4 n) (fun (s4 : (List Str)) n => ∃ k, whileW (fun (s11 : (List Str) × (List Str) × Bool) => (bnd (ret s11.1) fun a => bnd (ret ([] : (List Str))) fun b => need (okD (enc a) = true ∧ okD (enc b) = true) (ret (!eqD (enc a) (enc b))))) (fun (s11 : (List Str) × (List Str) × Bool) n Nx => popM s11.1 n fun p12 n => (bnd (ret p12) fun a => bnd (ret s11.2.1) fun b => ret (if true then !decide (a ∈ b) else decide (a ∈ b))) n fun b14 n => (b14 = true → (ret p12) n fun a_15 n => (s11.2.1).length ≤ LIM ∧ ((ret v_lot) n fun l24 n => forW (fun (x_17 : Str) (s16 : (List Str) × Bool) n Nx => (bnd (ret x_17) fun a => bnd (ret p12) fun b => ret (decide (a = b))) n fun b18 n => (b18 = true → (ret true) n fun v_is_alike19 n => Nx (s16.1, v_is_alike19) n) ∧ (b18 = false → (bnd (bnd (ret p12) fun z => bnd (ret none) fun lo => bnd (bnd (bnd (ret x_17) fun z => need (z.length ≤ LIM) (ret ((z.length : Nat) : Int))) fun i => ret (some i)) fun hi => need (z.length ≤ LIM) (ret (cutS z lo hi))) fun a => bnd (ret x_17) fun b => ret (decide (a = b))) n fun b20 n => (b20 = true → (bnd (ret p12) fun z => bnd (bnd (bnd (ret x_17) fun z => need (z.length ≤ LIM) (ret ((z.length : Nat) : Int))) fun i => ret (some i)) fun lo => bnd (ret none) fun hi => need (z.length ≤ LIM) (ret (cutS z lo hi))) n fun a_21 n => (s16.1).length ≤ LIM ∧ (Nx ((s16.1 ++ [a_21]), s16.2) n)) ∧ (b20 = false → (bnd (bnd (ret x_17) fun z => bnd (ret none) fun lo => bnd (bnd (bnd (ret p12) fun z => need (z.length ≤ LIM) (ret ((z.length : Nat) : Int))) fun i => ret (some i)) fun hi => need (z.length ≤ LIM) (ret (cutS z lo hi))) fun a => bnd (ret p12) fun b => ret (decide (a = b))) n fun b22 n => (b22 = true → (bnd (ret x_17) fun z => bnd (bnd (bnd (ret p12) fun z => need (z.length ≤ LIM) (ret ((z.length : Nat) : Int))) fun i => ret (some i)) fun lo => bnd (ret none) fun hi => need (z.length ≤ LIM) (ret (cutS z lo hi))) n fun a_23 n => (s16.1).length ≤ LIM ∧ (Nx ((s16.1 ++ [a_23]), s16.2) n)) ∧ (b22 = false → Nx (s16.1, s16.2) n)))) (fun (s16 : (List Str) × Bool) n => Nx (s16.1, (s11.2.1 ++ [a_15]), s16.2) n) l24 ((s11.1).dropLast, s11.2.2) n)) ∧ (b14 = false → Nx ((s11.1).dropLast, s11.2.1, s11.2.2) n)) (fun (s11 : (List Str) × (List Str) × Bool) n => (bnd (ret s11.2.1) fun a0 => bnd (ret s11.2.2) fun a1 => ret (a0, a1)) n Q) k (s4, v_found2, v_is_alike3) n) l25 v_waiting1 n

def m_law_eased (v_lot : (List Str)) : M (List Str) := fun n Q =>
  (ret ([] : (List Str))) n fun v_found1 n => (ret v_lot) n fun l6 n => forW (fun (x_3 : Str) (s2 : (List Str)) n Nx => (andM (bnd (ret x_3) fun a => bnd (ret s2) fun b => ret (if true then !decide (a ∈ b) else decide (a ∈ b))) (notM (bnd (bnd (bnd (bnd (ret s2) fun a => bnd (bnd (ret x_3) fun a => bnd (ret []) fun r => ret (a :: r)) fun b => need (a.length + b.length ≤ LIM) (ret (a ++ b))) fun a => bnd (ret ()) fun r => ret (a, r)) fun x => pc (m_law_rests x.1)) fun a => ret (Prod.snd a)))) n fun b4 n => (b4 = true → (ret x_3) n fun a_5 n => (s2).length ≤ LIM ∧ (Nx (s2 ++ [a_5]) n)) ∧ (b4 = false → Nx s2 n)) (fun (s2 : (List Str)) n => Q s2 n) l6 v_found1 n

def m_law_few (v_lot : (List Str)) (v_size : Int) : M (List (List Str)) := fun n Q =>
  (bnd (bnd (ret ("" : Str)) fun a => bnd (ret []) fun r => ret (a :: r)) fun a => bnd (ret []) fun r => ret (a :: r)) n fun v_found1 n => (bnd (ret (1 : Int)) fun i => bnd (bnd (ret v_size) fun a => bnd (ret (1 : Int)) fun b => ret (a + b)) fun j => need (-1000000 ≤ i ∧ i ≤ 1000000 ∧ -1000000 ≤ j ∧ j ≤ 1000000) (ret (intsUp i (j - i).toNat))) n fun l13 n => forW (fun (x_3 : Int) (s2 : (List (List Str))) n Nx => (ret ([] : (List Str))) n fun v_here4 n => (ret v_lot) n fun l12 n => forW (fun (x_6 : Str) (s5 : (List Str)) n Nx => (bnd (bnd (ret x_6) fun z => need (z.length ≤ LIM) (ret ((z.length : Nat) : Int))) fun a => bnd (ret x_3) fun b => ret (decide (a ≤ b))) n fun b7 n => (b7 = true → (bnd (bnd (ret s2) fun xs => bnd (bnd (ret x_3) fun a => bnd (bnd (ret x_6) fun z => need (z.length ≤ LIM) (ret ((z.length : Nat) : Int))) fun b => ret (a - b)) fun i => atM xs i) fun xs => need (xs.length ≤ LIM) (cmpW xs fun c_line9 => turnM (ret (true : Bool)) (bnd (ret c_line9) fun a => bnd (ret x_6) fun b => need (a.length + b.length ≤ LIM) (ret (a ++ b))))) n fun a_8 n => (s5).length + a_8.length ≤ LIM ∧ (Nx (s5 ++ a_8) n)) ∧ (b7 = false → Nx s5 n)) (fun (s5 : (List Str)) n => (bnd (bnd (ret s5) fun xs => ret ((xs.length : Nat) : Int)) fun a => bnd (ret (700 : Int)) fun b => ret (decide (b < a))) n fun b10 n => (b10 = true → Q s2 n) ∧ (b10 = false → (bnd (ret s5) fun xs => fun n Q => xs.length ≤ 4094 ∧ ∀ ys : List Str, ys.Nodup → (∀ y, y ∈ ys ↔ y ∈ xs) → sortedS ys = true → Q ys n) n fun a_11 n => (s2).length ≤ LIM ∧ (Nx (s2 ++ [a_11]) n))) l12 v_here4 n) (fun (s2 : (List (List Str))) n => Q s2 n) l13 v_found1 n

def m_law_right  : M Bool := fun n Q =>
  (bnd (bnd (bnd (bnd (bnd (ret ()) fun x => m_law_known) fun a => bnd (bnd (bnd (bnd (ret (5 : Int)) fun a => bnd (bnd (ret (5 : Int)) fun a => bnd (ret ()) fun r => ret (a, r)) fun r => ret (a, r)) fun x => m_law_lot x.1 x.2.1) fun a => bnd (ret []) fun r => ret (a :: r)) fun r => ret (a :: r)) fun xs => bnd (bnd (bnd (ret (2 : Int)) fun a => bnd (ret ()) fun r => ret (a, r)) fun x => m_law_draw x.1) fun i => atM xs i) fun a => bnd (ret ()) fun r => ret (a, r)) fun x => pc (m_law_eased x.1)) n fun v_lot1 n => (bnd (ret v_lot1) fun ws => need (Good ws) (ret (Stk.mk ws))) n fun v_made2 n => (ret v_lot1) n fun v_kept3 n => (bnd (bnd (bnd (ret v_lot1) fun a => bnd (bnd (ret (12 : Int)) fun a => bnd (ret ()) fun r => ret (a, r)) fun r => ret (a, r)) fun x => pc (m_law_few x.1 x.2.1)) fun xs => ret (numbered xs)) n fun l13 n => forW (fun (x_5 : (Int × (List Str))) (s4 : Unit) n Nx => (bnd (bnd (bnd (bnd (bnd (ret v_made2) fun a => bnd (bnd (ret x_5.1) fun a => bnd (ret ()) fun r => ret (a, r)) fun r => ret (a, r)) fun x => pc (m_count_texts x.1 x.2.1)) fun a => bnd (bnd (bnd (bnd (ret x_5.1) fun a => bnd (bnd (ret v_made2) fun a => bnd (ret ()) fun r => ret (a, r)) fun r => ret (a, r)) fun x => pc (m_count_texts x.2.1 x.1)) fun a => bnd (ret []) fun r => ret (a :: r)) fun r => ret (a :: r)) fun a => need (shOk (enc a)) (ret (shS (enc a)))) fun a => bnd (bnd (bnd (bnd (bnd (ret x_5.2) fun xs => ret ((xs.length : Nat) : Int)) fun a => bnd (ret []) fun r => ret (a :: r)) fun a => bnd (ret (2 : Int)) fun b => need (b ≤ LIM ∧ -1000000 ≤ b ∧ a.length * b.toNat ≤ LIM) (ret (List.replicate b.toNat a).flatten)) fun a => need (shOk (enc a)) (ret (shS (enc a)))) fun b => ret (!decide (a = b))) n fun b6 n => (b6 = true → (ret false) n Q) ∧ (b6 = false → (bnd (bnd (ret x_5.2) fun xs => bnd (ret none) fun lo => bnd (bnd (ret (6 : Int)) fun i => ret (some i)) fun hi => ret (cutL xs lo hi)) fun a => bnd (bnd (ret x_5.2) fun xs => bnd (bnd (bnd (ret (3 : Int)) fun a => ret (-a)) fun i => ret (some i)) fun lo => bnd (ret none) fun hi => ret (cutL xs lo hi)) fun b => need (a.length + b.length ≤ LIM) (ret (a ++ b))) n fun l12 n => forW (fun (x_8 : Str) (s7 : Unit) n Nx => (bnd (ret x_5.2) fun bs => bnd (ret x_8) fun b => fun n Q => ∃ j : Nat, bs[j]? = some b ∧ (∀ m : Nat, m < j → bs[m]? ≠ some b) ∧ Q ((j : Nat) : Int) n) n fun v_at9 n => (bnd (bnd (bnd (bnd (bnd (ret v_made2) fun a => bnd (bnd (ret x_5.1) fun a => bnd (bnd (ret v_at9) fun a => bnd (ret ()) fun r => ret (a, r)) fun r => ret (a, r)) fun r => ret (a, r)) fun x => pc (m_nth_text x.1 x.2.1 x.2.2.1)) fun a => bnd (bnd (bnd (bnd (ret v_at9) fun a => bnd (bnd (ret x_5.1) fun a => bnd (bnd (ret v_made2) fun a => bnd (ret ()) fun r => ret (a, r)) fun r => ret (a, r)) fun r => ret (a, r)) fun x => pc (m_nth_text x.2.2.1 x.2.1 x.1)) fun a => bnd (ret []) fun r => ret (a :: r)) fun r => ret (a :: r)) fun a => need (shOk (enc a)) (ret (shS (enc a)))) fun a => bnd (bnd (bnd (ret x_8) fun a => bnd (bnd (ret x_8) fun a => bnd (ret []) fun r => ret (a :: r)) fun r => ret (a :: r)) fun a => need (shOk (enc a)) (ret (shS (enc a)))) fun b => ret (!decide (a = b))) n fun b10 n => (b10 = true → (ret false) n Q) ∧ (b10 = false → (bnd (bnd (bnd (bnd (bnd (ret v_made2) fun a => bnd (bnd (ret x_8) fun a => bnd (ret ()) fun r => ret (a, r)) fun r => ret (a, r)) fun x => pc (m_text_index x.1 x.2.1)) fun a => bnd (bnd (bnd (bnd (ret x_8) fun a => bnd (bnd (ret v_made2) fun a => bnd (ret ()) fun r => ret (a, r)) fun r => ret (a, r)) fun x => pc (m_text_index x.2.1 x.1)) fun a => bnd (ret []) fun r => ret (a :: r)) fun r => ret (a :: r)) fun a => need (shOk (enc a)) (ret (shS (enc a)))) fun a => bnd (bnd (bnd (ret v_at9) fun a => bnd (bnd (ret v_at9) fun a => bnd (ret []) fun r => ret (a :: r)) fun r => ret (a :: r)) fun a => need (shOk (enc a)) (ret (shS (enc a)))) fun b => ret (!decide (a = b))) n fun b11 n => (b11 = true → (ret false) n Q) ∧ (b11 = false → Nx () n))) (fun (s7 : Unit) n => Nx () n) l12 () n)) (fun (s4 : Unit) n => (bnd (bnd (ret v_made2) fun s => ret s.ws) fun a => bnd (ret v_kept3) fun b => need (okD (enc a) = true ∧ okD (enc b) = true) (ret (eqD (enc a) (enc b)))) n Q) l13 () n
end WH
namespace WH
open PySem PySem.Spec PyProof.Rows L2
open Enc (enc)
open EncL (encl)
structure StkC (K : PySem.W.Frag) (mg : Str → Option Value) (C fi fe fw : Addr) : Prop where
  cl : Cls K C
  nW : NoAttr K C "_words"
  mgC : mg "Stock" = some (.ref C)
  made : Mk K C fi
  eqc : EqCls K C fe
  prop : ∃ p, PropOf K C "words" p fw
  ha : PySem.W.findIn K (.ref C) "__class__" = some (some (.builtin "object.__class__"))
  hn : PySem.W.specialIn K (.builtin "object.__class__") "__get__" = some (some (.builtin "getset_descriptor.__get__"))
  htk : PySem.W.takesIn K (.builtin "object.__class__") = some true
  hm : PySem.W.mroIn K C (.type "object") = some true
  ki : PySem.W.kitOne K (.ref C) (.ref C) = some true
end WH
namespace WH
open PySem PySem.Spec PyProof.Rows L2
open Enc (enc)
open EncL (encl)
def topS (i : Nat) : Stmt := PySem.Challenge.pw_wordhulls_k41_texts_counted.main.body.getD i (.Pass ⟨0, 0, 0, 0⟩)
abbrev sEInit : Stmt := inClass (topS 2) 0
abbrev sIsMade : Stmt := topS 8
abbrev sEndsWith : Stmt := topS 9
abbrev sIsLetters : Stmt := topS 13
abbrev sIsWord : Stmt := topS 14
abbrev sSInit : Stmt := inClass (topS 17) 0
abbrev sSEq : Stmt := inClass (topS 17) 1
abbrev sSWords : Stmt := inClass (topS 17) 2
abbrev sCheckWords : Stmt := topS 18
abbrev sRestBetween : Stmt := topS 20
abbrev sBeginningPairs : Stmt := topS 21
abbrev sCheckOneWay : Stmt := topS 22
abbrev sLeastText : Stmt := topS 23
abbrev sTextsBehind : Stmt := topS 24
abbrev sCountsTo : Stmt := topS 26
abbrev sCountTexts : Stmt := topS 27
abbrev sCheckLength : Stmt := topS 28
abbrev sLettersIn : Stmt := topS 29
abbrev sEndsBehind : Stmt := topS 30
abbrev sCountCompleted : Stmt := topS 31
abbrev sNthText : Stmt := topS 32
abbrev sLetterAtIndex : Stmt := topS 33
abbrev sTextIndex : Stmt := topS 34
abbrev sPool : Stmt := topS 36
abbrev sDraw : Stmt := topS 37
abbrev sWord : Stmt := topS 38
abbrev sLot : Stmt := topS 39
abbrev sKnown : Stmt := topS 40
abbrev slRests : Stmt := topS 41
abbrev slEased : Stmt := topS 42
abbrev slFew : Stmt := topS 43
abbrev slRight : Stmt := topS 44
abbrev sLaw : Stmt := topS 45
section
variable {P : Program} {w : World} {K : PySem.W.Frag} {mg : Str → Option Value} {base : Heap} {C fi fe fw : Addr}
theorem scsEndsWith : FnScope ["word", "text", "end", "made", "start"] ["word", "text", "end", "made"] (defScope sEndsWith) := ⟨rfl, rfl, rfl, by decide +kernel, rfl, by decide +kernel, by decide +kernel⟩
theorem okEndsWith {f : Addr} {fd : FuncData} (F : Fun K "ends_with" "ends_with" sEndsWith f fd) (B : BuA mg) :
    FnG P w K mg base CX0 1 f fd ["word", "text", "end", "made"] (spP ⟨C, K, P, w⟩ (fun x : Str × Str × Int × (List Bool) × Unit => m_ends_with x.1 x.2.1 x.2.2.1 x.2.2.2.1)) := by
  refine okP F scsEndsWith (by decide) (fun _ => rfl) (fun cdv A outer s H Hs vs Q E x Rt hr hG hm ok hrt => ?_)
  obtain ⟨v_word, v_text, v_end, v_made, u0⟩ := x
  replace hm : m_ends_with v_word v_text v_end v_made 0 Rt := hm
  unfold m_ends_with at hm
  refine ⟨_, (pss_cons (ps_set (i := 4) scsEndsWith.nd rfl (Or.inl rfl) (pe_op op_sub (pv 2) (pe_callB call_len_str (by rfl) B.len PySem.boot_len (pa_cons (pv 0) pa_nil))))
      (pss_one (ps_ret (pe_and (pe_cmpR op_ge (pv 4) pe_int (nomark _)) (pe_and (peK_bm (K := K) rfl PySem.F.plainAttrs_str PySem.F.slot_str_startswith PySem.F.type_str_startswith mt_startswith3 (pv 1) (pa_cons (pv 0) (pa_cons (pv 4) pa_nil))) (pe_one (pe_ix (ixK_list (K := K) rfl) (pv 3) (pv 4) (fun _ _ => rfl)))))))), ?_⟩
  have ok : OkS _ [some (.sh (enc (v_word : Str))), some (.sh (enc (v_text : Str))), some (.sh (enc (v_end : Int))), some (.sh (enc (v_made : (List Bool)))), none] 0 _ Hs H := ok
  refine sq ?_
  refine go_set ok (ev_sub (ev_var rfl) (ev_lenS (ev_var rfl))) hm ?_
  intro v_start1 n σ Hs H hm ok
  have ok : OkS _ [some (.sh (enc (v_word : Str))), some (.sh (enc (v_text : Str))), some (.sh (enc (v_end : Int))), some (.sh (enc (v_made : (List Bool)))), some (.sh (enc (v_start1 : Int)))] n σ Hs H := ok
  refine nx_go ?_
  exact go_ret ok (ev_andV (ev_ge (ev_var rfl) ev_int) (ev_andV (ev_startswith3 (ev_var rfl) (ev_var rfl) (ev_var rfl)) (ev_ixL (el_ev (ev_var rfl)) (ev_var rfl)))) hm hrt

theorem scsIsMade : FnScope ["words", "text", "made", "end", "word"] ["words", "text"] (defScope sIsMade) := ⟨rfl, rfl, rfl, by decide +kernel, rfl, by decide +kernel, by decide +kernel⟩
theorem okIsMade {f : Addr} {fd : FuncData} (F : Fun K "is_made" "is_made" sIsMade f fd) (B : BuA mg)
    {fX_ends_with : Addr} {fdX_ends_with : FuncData} (X_ends_with : CalG P w K mg base 1 "ends_with" ["word", "text", "end", "made"] (spP ⟨C, K, P, w⟩ (fun x : Str × Str × Int × (List Bool) × Unit => m_ends_with x.1 x.2.1 x.2.2.1 x.2.2.2.1)) fX_ends_with fdX_ends_with) :
    FnG P w K mg base CX0 2 f fd ["words", "text"] (spP ⟨C, K, P, w⟩ (fun x : (List Str) × Str × Unit => m_is_made x.1 x.2.1)) := by
  refine okP F scsIsMade (by decide) (fun _ => rfl) (fun cdv A outer s H Hs vs Q E x Rt hr hG hm ok hrt => ?_)
  obtain ⟨v_words, v_text, u0⟩ := x
  replace hm : m_is_made v_words v_text 0 Rt := hm
  unfold m_is_made at hm
  refine ⟨_, (pss_cons (ps_set (i := 2) scsIsMade.nd rfl (Or.inr rfl) (pe_lst (pa_cons pe_bl pa_nil)))
      (pss_cons (ps_for PassesOwn.never rfl (pi_range2 (by rfl) B.range (pa_cons pe_int (pa_cons (pe_op op_add (pe_callB call_len_str (by rfl) B.len PySem.boot_len (pa_cons (pv 1) pa_nil)) pe_int) pa_nil))) (pg_name (i := 3) scsIsMade.nd rfl (Or.inr rfl)) (pss_one (ps_expr (peK_bm (K := K) rfl PySem.F.plainAttrs_list PySem.F.slot_list_append PySem.F.type_list_append mt_append (pv 2) (pa_cons (pe_callB (callK_any (K := K) rfl rfl) (by rfl) B.any (by decide +kernel) (pa_cons (pe_lc (own := [("word", 4)]) (g := gName 4) (tt := tYes) rfl scsIsMade.nd (piK_list (K := K) rfl (pv 0)) (blkOk_by (by kernel_rfl)) (fun _ _ _ _ _ => (pg_name (i := 4) scsIsMade.nd rfl (Or.inl rfl))) (fun _ _ _ _ _ => pts_nil) (fun _ _ _ _ _ => (pe_callG X_ends_with.G (hr.mono (by decide)) hG (by rfl) X_ends_with.g X_ends_with.k X_ends_with.b pass0 (pa_cons (pv 4) (pa_cons (pv 1) (pa_cons (pv 3) (pa_cons (pv 2) pa_nil))))))) pa_nil)) pa_nil)))))
      (pss_one (ps_ret (pe_ix (ixK_list (K := K) rfl) (pv 2) (pe_callB call_len_str (by rfl) B.len PySem.boot_len (pa_cons (pv 1) pa_nil)) (fun _ _ => rfl)))))), ?_⟩
  have ok : OkS _ [some (.sh (enc (v_words : (List Str)))), some (.sh (enc (v_text : Str))), none, none, none] 0 _ Hs H := ok
  refine sq ?_
  refine go_new ok (en_lst (ei_cons ev_bl ei_nil) (by decide)) hm ?_
  intro v_made1 n σ Hs H hm ok
  have ok : OkS _ [some (.sh (enc (v_words : (List Str)))), some (.sh (enc (v_text : Str))), some (.ow ((v_made1 : (List Bool)).map enc)), none, none] n σ Hs H := ok
  refine nx_go ?_
  refine sq ?_
  refine go_for (envOf := fun s2 : (List Bool) => [some (.sh (enc (v_words : (List Str)))), some (.sh (enc (v_text : Str))), some (.ow ((s2 : (List Bool)).map enc)), none, none]) ok (es_range2 ev_int (ev_add (ev_lenS (ev_var rfl)) ev_int)) (fun _ => eg_name) hm (fun _ _ h => h) (.keep (.keep (.keep (.keep (.keep Wk.nil))))) ?_ ?_
  · intro Hs1 Ab x_3 s2 n σ Hs H N Nx hN hm ok
    have hrt := hrt.up Ab
    have ok : OkS _ [some (.sh (enc (v_words : (List Str)))), some (.sh (enc (v_text : Str))), some (.ow ((s2 : (List Bool)).map enc)), some (.sh (enc (x_3 : Int))), none] n σ Hs H := ok
    refine go_append ok rfl (ev_lend (i := 2) rfl (ev_any (el_en (en_comp (es_list (ev_var rfl)) eg_name (by decide) (noOwnB rfl) (fun c_word6 => et_yes) (fun c_word6 => (ev_callP (m := (fun x : Str × Str × Int × (List Bool) × Unit => m_ends_with x.1 x.2.1 x.2.2.1 x.2.2.2.1)) (ea_cons (ev_var rfl) (ea_cons (ev_var rfl) (ea_cons (ev_var rfl) (ea_cons (ev_var rfl) ea_nil)))))) (fun _ => rfl))))) hm ?_
    intro a_4 n σ Hs H hm ok
    have ok : OkS _ [some (.sh (enc (v_words : (List Str)))), some (.sh (enc (v_text : Str))), some (.ow (((s2 ++ [a_4]) : (List Bool)).map enc)), some (.sh (enc (x_3 : Int))), none] n σ Hs H := ok
    exact hN _ _ _ _ _ hm (ok.wk (.keep (.keep (.keep (.drop (.keep Wk.nil))))))
  · intro s2 n σ Hs H hm ok
    have ok : OkS _ [some (.sh (enc (v_words : (List Str)))), some (.sh (enc (v_text : Str))), some (.ow ((s2 : (List Bool)).map enc)), none, none] n σ Hs H := ok
    refine nx_go ?_
    exact go_ret ok (ev_ixL (el_own rfl) (ev_lenS (ev_var rfl))) hm hrt

theorem scsRestBetween : FnScope ["one", "other"] ["one", "other"] (defScope sRestBetween) := ⟨rfl, rfl, rfl, by decide +kernel, rfl, by decide +kernel, by decide +kernel⟩
theorem okRestBetween {f : Addr} {fd : FuncData} (F : Fun K "rest_between" "rest_between" sRestBetween f fd) (B : BuA mg) :
    FnG P w K mg base CX0 1 f fd ["one", "other"] (spP ⟨C, K, P, w⟩ (fun x : Str × Str × Unit => m_rest_between x.1 x.2.1)) := by
  refine okP F scsRestBetween (by decide) (fun _ => rfl) (fun cdv A outer s H Hs vs Q E x Rt hr hG hm ok hrt => ?_)
  obtain ⟨v_one, v_other, u0⟩ := x
  replace hm : m_rest_between v_one v_other 0 Rt := hm
  unfold m_rest_between at hm
  refine ⟨_, (pss_cons (ps_if (pt_val (peK_bm (K := K) rfl PySem.F.plainAttrs_str PySem.F.slot_str_startswith PySem.F.type_str_startswith mt_startswith (pv 1) (pa_cons (pv 0) pa_nil))) (pss_one (ps_ret (pe_slice sl_str (pv 1) (po_some (pe_callB call_len_str (by rfl) B.len PySem.boot_len (pa_cons (pv 0) pa_nil))) po_none))) pss_nil)
      (pss_cons (ps_if (pt_val (peK_bm (K := K) rfl PySem.F.plainAttrs_str PySem.F.slot_str_startswith PySem.F.type_str_startswith mt_startswith (pv 0) (pa_cons (pv 1) pa_nil))) (pss_one (ps_ret (pe_slice sl_str (pv 0) (po_some (pe_callB call_len_str (by rfl) B.len PySem.boot_len (pa_cons (pv 1) pa_nil))) po_none))) pss_nil)
      (pss_one (ps_ret pe_str)))), ?_⟩
  have ok : OkS _ [some (.sh (enc (v_one : Str))), some (.sh (enc (v_other : Str)))] 0 _ Hs H := ok
  refine sq ?_
  refine go_if ok (et_val (ev_startswith (ev_var rfl) (ev_var rfl))) hm ?_ ?_
  · intro n Hs H hm ok
    have hm := hm.1 rfl
    exact go_ret ok (ev_slS (ev_var rfl) (eo_some (ev_lenS (ev_var rfl))) eo_none) hm hrt
  · intro n Hs H hm ok
    have hm := hm.2 rfl
    refine go_next ?_
    refine nx_go ?_
    refine sq ?_
    refine go_if ok (et_val (ev_startswith (ev_var rfl) (ev_var rfl))) hm ?_ ?_
    · intro n Hs H hm ok
      have hm := hm.1 rfl
      exact go_ret ok (ev_slS (ev_var rfl) (eo_some (ev_lenS (ev_var rfl))) eo_none) hm hrt
    · intro n Hs H hm ok
      have hm := hm.2 rfl
      refine go_next ?_
      refine nx_go ?_
      exact go_ret ok ev_str hm hrt

theorem scsBeginningPairs : FnScope ["words", "numbers", "begin", "number"] ["words"] (defScope sBeginningPairs) := ⟨rfl, rfl, rfl, by decide +kernel, rfl, by decide +kernel, by decide +kernel⟩
theorem okBeginningPairs {f : Addr} {fd : FuncData} (F : Fun K "beginning_pairs" "beginning_pairs" sBeginningPairs f fd) (B : BuA mg) :
    FnG P w K mg base CX0 1 f fd ["words"] (spPN ⟨C, K, P, w⟩ (fun x : (List Str) × Unit => m_beginning_pairs x.1)) := by
  refine okPN F scsBeginningPairs (by decide) (fun _ => rfl) (fun cdv A outer s H Hs vs Q E x Rt hr hG hm ok hrt => ?_)
  obtain ⟨v_words, u0⟩ := x
  replace hm : m_beginning_pairs v_words 0 Rt := hm
  unfold m_beginning_pairs at hm
  refine ⟨_, (pss_cons (ps_set (i := 1) scsBeginningPairs.nd rfl (Or.inr rfl) (pe_callTy cr_range1 (by rfl) B.range (by decide +kernel) (pa_cons (pe_callB (callK_len (K := K) rfl) (by rfl) B.len PySem.boot_len (pa_cons (pv 0) pa_nil)) pa_nil)))
      (pss_one (ps_ret (pe_lc2 (own := [("begin", 2), ("number", 3)]) (vs1 := [3]) (g := gName 2) (g1 := gName 3) (tt := tYes) rfl scsBeginningPairs.nd (pi_rng (pv 1)) (blkOk_by (N := ["words", "numbers", "begin", "number"]) (sc := defScope sBeginningPairs) (by decide +kernel)) (by decide) (fun _ _ _ _ _ => (pg_name (i := 2) scsBeginningPairs.nd rfl (Or.inl rfl))) (fun _ _ _ _ _ => pts_nil) (fun _ _ _ _ _ => (pi_rng (pv 1))) (fun _ _ _ _ _ => (pg_name (i := 3) scsBeginningPairs.nd rfl (Or.inl rfl))) (fun _ _ _ _ _ => (pts_one (PW.pt (pw_and (pt_cmpR op_ne (pv 2) (pv 3) (nomark _)) (pw_and1 (pt_val (peK_bm (K := K) rfl PySem.F.plainAttrs_str PySem.F.slot_str_startswith PySem.F.type_str_startswith mt_startswith (pe_ix (ixK_list (K := K) rfl) (pv 0) (pv 3) (fun _ _ => rfl)) (pa_cons (pe_ix (ixK_list (K := K) rfl) (pv 0) (pv 2) (fun _ _ => rfl)) pa_nil)))))))) (fun _ _ _ _ _ => (pe_tup (pa_cons (pv 2) (pa_cons (pv 3) pa_nil)))))))), ?_⟩
  have ok : OkS _ [some (.sh (enc (v_words : (List Str)))), none, none, none] 0 _ Hs H := ok
  refine sq ?_
  refine go_rngNew ok (ev_lenL (el_ev (ev_var rfl))) hm ?_
  intro v_numbers1 n σ Hs H hm ok
  have ok : OkS _ [some (.sh (enc (v_words : (List Str)))), some (.ob fun _ => .rng 0 (v_numbers1 : Int)), none, none] n σ Hs H := ok
  refine nx_go ?_
  exact go_retN ok (en_comp2 (es_rngV rfl) eg_name (by decide) (noOwnB rfl) (fun _ => rfl) (fun _ => noOwnB rfl) (fun c_begin2 => (es_rngV rfl)) (fun _ => eg_name) (by decide) (by decide) (fun _ _ => rfl) (fun _ => rfl) (fun c_begin2 c_number3 => (et_and (et_test (ev_neI (ev_var rfl) (ev_var rfl))) (et_val (ev_startswith (ev_ixL (el_ev (ev_var rfl)) (ev_var rfl)) (ev_ixL (el_ev (ev_var rfl)) (ev_var rfl)))))) (fun c_begin2 c_number3 => (ev_tup2 (ev_var rfl) (ev_var rfl)))) hm hrt

theorem scsTextsBehind : FnScope ["words", "text", "rest", "told", "word"] ["words", "text", "rest"] (defScope sTextsBehind) := ⟨rfl, rfl, rfl, by decide +kernel, rfl, by decide +kernel, by decide +kernel⟩
theorem okTextsBehind {f : Addr} {fd : FuncData} (F : Fun K "texts_behind" "texts_behind" sTextsBehind f fd) (B : BuA mg) :
    FnG P w K mg base CX0 1 f fd ["words", "text", "rest"] (spPN ⟨C, K, P, w⟩ (fun x : (List Str) × Str × Str × Unit => m_texts_behind x.1 x.2.1 x.2.2.1)) := by
  refine okPN F scsTextsBehind (by decide) (fun _ => rfl) (fun cdv A outer s H Hs vs Q E x Rt hr hG hm ok hrt => ?_)
  obtain ⟨v_words, v_text, v_rest, u0⟩ := x
  replace hm : m_texts_behind v_words v_text v_rest 0 Rt := hm
  unfold m_texts_behind at hm
  refine ⟨_, (pss_cons (ps_set (i := 3) scsTextsBehind.nd rfl (Or.inl rfl) (pe_lst pa_nil))
      (pss_cons (ps_for PassesOwn.never rfl (piK_list (K := K) rfl (pv 0)) (pg_name (i := 4) scsTextsBehind.nd rfl (Or.inl rfl)) (pss_one (ps_if (pt_val (peK_bm (K := K) rfl PySem.F.plainAttrs_str PySem.F.slot_str_startswith PySem.F.type_str_startswith mt_startswith (pv 4) (pa_cons (pv 2) pa_nil))) (pss_one (ps_expr (peK_bm (K := K) rfl PySem.F.plainAttrs_list PySem.F.slot_list_append PySem.F.type_list_append mt_append (pv 3) (pa_cons (pe_tup (pa_cons (pe_op op_add_str (pv 1) (pe_slice sl_str (pv 4) (po_some (pe_callB call_len_str (by rfl) B.len PySem.boot_len (pa_cons (pv 2) pa_nil))) po_none)) (pa_cons (pe_slice sl_str (pv 4) (po_some (pe_callB call_len_str (by rfl) B.len PySem.boot_len (pa_cons (pv 2) pa_nil))) po_none) pa_nil))) pa_nil)))) (pss_one (ps_if (pt_val (peK_bm (K := K) rfl PySem.F.plainAttrs_str PySem.F.slot_str_startswith PySem.F.type_str_startswith mt_startswith (pv 2) (pa_cons (pv 4) pa_nil))) (pss_one (ps_expr (peK_bm (K := K) rfl PySem.F.plainAttrs_list PySem.F.slot_list_append PySem.F.type_list_append mt_append (pv 3) (pa_cons (pe_tup (pa_cons (pv 1) (pa_cons (pe_slice sl_str (pv 2) (po_some (pe_callB call_len_str (by rfl) B.len PySem.boot_len (pa_cons (pv 4) pa_nil))) po_none) pa_nil))) pa_nil)))) pss_nil)))))
      (pss_one (ps_ret (pv 3))))), ?_⟩
  have ok : OkS _ [some (.sh (enc (v_words : (List Str)))), some (.sh (enc (v_text : Str))), some (.sh (enc (v_rest : Str))), none, none] 0 _ Hs H := ok
  refine sq ?_
  refine go_new ok (en_lst ei_nil (by decide)) hm ?_
  intro v_told1 n σ Hs H hm ok
  have ok : OkS _ [some (.sh (enc (v_words : (List Str)))), some (.sh (enc (v_text : Str))), some (.sh (enc (v_rest : Str))), some (.ow ((v_told1 : (List (Str × Str))).map enc)), none] n σ Hs H := ok
  refine nx_go ?_
  refine sq ?_
  refine go_for (envOf := fun s2 : (List (Str × Str)) => [some (.sh (enc (v_words : (List Str)))), some (.sh (enc (v_text : Str))), some (.sh (enc (v_rest : Str))), some (.ow ((s2 : (List (Str × Str))).map enc)), none]) ok (es_list (ev_var rfl)) (fun _ => eg_name) hm (fun _ _ h => h) (.keep (.keep (.keep (.keep (.keep Wk.nil))))) ?_ ?_
  · intro Hs1 Ab x_3 s2 n σ Hs H N Nx hN hm ok
    have hrt := hrt.up Ab
    have ok : OkS _ [some (.sh (enc (v_words : (List Str)))), some (.sh (enc (v_text : Str))), some (.sh (enc (v_rest : Str))), some (.ow ((s2 : (List (Str × Str))).map enc)), some (.sh (enc (x_3 : Str)))] n σ Hs H := ok
    refine go_if ok (et_val (ev_startswith (ev_var rfl) (ev_var rfl))) hm ?_ ?_
    · intro n Hs H hm ok
      have hm := hm.1 rfl
      refine go_append ok rfl (ev_tup2 (ev_catS (ev_var rfl) (ev_slS (ev_var rfl) (eo_some (ev_lenS (ev_var rfl))) eo_none)) (ev_slS (ev_var rfl) (eo_some (ev_lenS (ev_var rfl))) eo_none)) hm ?_
      intro a_5 n σ Hs H hm ok
      have ok : OkS _ [some (.sh (enc (v_words : (List Str)))), some (.sh (enc (v_text : Str))), some (.sh (enc (v_rest : Str))), some (.ow (((s2 ++ [a_5]) : (List (Str × Str))).map enc)), some (.sh (enc (x_3 : Str)))] n σ Hs H := ok
      exact hN _ _ _ _ _ hm (ok.wk (.keep (.keep (.keep (.keep (.drop Wk.nil))))))
    · intro n Hs H hm ok
      have hm := hm.2 rfl
      refine go_if ok (et_val (ev_startswith (ev_var rfl) (ev_var rfl))) hm ?_ ?_
      · intro n Hs H hm ok
        have hm := hm.1 rfl
        refine go_append ok rfl (ev_tup2 (ev_var rfl) (ev_slS (ev_var rfl) (eo_some (ev_lenS (ev_var rfl))) eo_none)) hm ?_
        intro a_7 n σ Hs H hm ok
        have ok : OkS _ [some (.sh (enc (v_words : (List Str)))), some (.sh (enc (v_text : Str))), some (.sh (enc (v_rest : Str))), some (.ow (((s2 ++ [a_7]) : (List (Str × Str))).map enc)), some (.sh (enc (x_3 : Str)))] n σ Hs H := ok
        exact hN _ _ _ _ _ hm (ok.wk (.keep (.keep (.keep (.keep (.drop Wk.nil))))))
      · intro n Hs H hm ok
        have hm := hm.2 rfl
        refine go_next ?_
        exact hN _ _ _ _ _ hm (ok.wk (.keep (.keep (.keep (.keep (.drop Wk.nil))))))
  · intro s2 n σ Hs H hm ok
    have ok : OkS _ [some (.sh (enc (v_words : (List Str)))), some (.sh (enc (v_text : Str))), some (.sh (enc (v_rest : Str))), some (.ow ((s2 : (List (Str × Str))).map enc)), none] n σ Hs H := ok
    refine nx_go ?_
    exact go_retO (i := 3) ok rfl hm hrt

theorem scsLeastText : FnScope ["words", "queue", "seen", "_", "text", "rest", "longer", "left", "begin", "number"] ["words"] (defScope sLeastText) := ⟨rfl, rfl, rfl, by decide +kernel, rfl, by decide +kernel, by decide +kernel⟩
theorem okLeastText {f : Addr} {fd : FuncData} (F : Fun K "least_text" "least_text" sLeastText f fd) (B : BuA mg) (BH : BuH mg)
    {fX_beginning_pairs : Addr} {fdX_beginning_pairs : FuncData} (X_beginning_pairs : CalG P w K mg base 1 "beginning_pairs" ["words"] (spPN ⟨C, K, P, w⟩ (fun x : (List Str) × Unit => m_beginning_pairs x.1)) fX_beginning_pairs fdX_beginning_pairs)
    {fX_rest_between : Addr} {fdX_rest_between : FuncData} (X_rest_between : CalG P w K mg base 1 "rest_between" ["one", "other"] (spP ⟨C, K, P, w⟩ (fun x : Str × Str × Unit => m_rest_between x.1 x.2.1)) fX_rest_between fdX_rest_between)
    {fX_texts_behind : Addr} {fdX_texts_behind : FuncData} (X_texts_behind : CalG P w K mg base 1 "texts_behind" ["words", "text", "rest"] (spPN ⟨C, K, P, w⟩ (fun x : (List Str) × Str × Str × Unit => m_texts_behind x.1 x.2.1 x.2.2.1)) fX_texts_behind fdX_texts_behind) :
    FnG P w K mg base CX0 2 f fd ["words"] (spP ⟨C, K, P, w⟩ (fun x : (List Str) × Unit => m_least_text x.1)) := by
  refine okP F scsLeastText (by decide) (fun _ => rfl) (fun cdv A outer s H Hs vs Q E x Rt hr hG hm ok hrt => ?_)
  obtain ⟨v_words, u0⟩ := x
  replace hm : m_least_text v_words 0 Rt := hm
  unfold m_least_text at hm
  refine ⟨_, (pss_cons (ps_setLc (i := 1) (own := [("begin", 8), ("number", 9)]) (tt := tYes) rfl scsLeastText.nd rfl rfl (sw_true rfl rfl rfl (by decide +kernel)) (piK_list (K := K) rfl (pe_callG X_beginning_pairs.G (hr.mono (by decide)) hG (by rfl) X_beginning_pairs.g X_beginning_pairs.k X_beginning_pairs.b pass0 (pa_cons (pv 0) pa_nil))) (blkOk_by (N := ["words", "queue", "seen", "_", "text", "rest", "longer", "left", "begin", "number"]) (sc := defScope sLeastText) (by decide +kernel)) (fun _ _ _ _ _ => (pgK_tup (K := K) (n := 2) rfl rfl (pgs_cons (pg_name (i := 8) scsLeastText.nd rfl (Or.inl rfl)) (pgs_cons (pg_name (i := 9) scsLeastText.nd rfl (Or.inl rfl)) pgs_nil)))) (fun _ _ _ _ _ => pts_nil) (fun _ _ _ _ _ => (pe_tup (pa_cons (pe_callB call_len_str (by rfl) B.len PySem.boot_len (pa_cons (pe_ix (ixK_list (K := K) rfl) (pv 0) (pv 9) (fun _ _ => rfl)) pa_nil)) (pa_cons (pe_ix (ixK_list (K := K) rfl) (pv 0) (pv 9) (fun _ _ => rfl)) (pa_cons (pe_callG X_rest_between.G (hr.mono (by decide)) hG (by rfl) X_rest_between.g X_rest_between.k X_rest_between.b pass0 (pa_cons (pe_ix (ixK_list (K := K) rfl) (pv 0) (pv 8) (fun _ _ => rfl)) (pa_cons (pe_ix (ixK_list (K := K) rfl) (pv 0) (pv 9) (fun _ _ => rfl)) pa_nil))) pa_nil))))))
      (pss_cons (ps_expr (pe_callMB (cr_heapify (dunit1 hr)) (by rfl) BH.heapify (pa_cons (pv 1) pa_nil)))
      (pss_cons (ps_set (i := 2) scsLeastText.nd rfl (Or.inl rfl) (pe_callTy0 cr_setX0 (by rfl) B.set (by decide +kernel)))
      (pss_cons (ps_while PassesOwn.never (pt_truth (pv 1) (fun _ => rfl)) (pss_cons (ps_asg (pe_callMB (cr_heappop (dunit1 hr)) (by rfl) BH.heappop (pa_cons (pv 1) pa_nil)) (pgK_tup (K := K) (n := 3) rfl rfl (pgs_cons (pg_name (i := 3) scsLeastText.nd rfl (Or.inl rfl)) (pgs_cons (pg_name (i := 4) scsLeastText.nd rfl (Or.inl rfl)) (pgs_cons (pg_name (i := 5) scsLeastText.nd rfl (Or.inl rfl)) pgs_nil)))))
      (pss_cons (ps_if (pt_cmpR op_eq (pv 5) pe_str (nomark _)) (pss_one (ps_ret (pv 4))) pss_nil)
      (pss_one (ps_if (pt_cmpR or_setXNotIn (pv 5) (pv 2) rfl) (pss_cons (ps_expr (pe_setXAdd (pv 2) (pa_cons (pv 5) pa_nil) (by rfl) (by rfl) (by rfl) (by rfl) (by rfl)))
      (pss_one (ps_for PassesOwn.never rfl (piK_list (K := K) rfl (pe_callG X_texts_behind.G (hr.mono (by decide)) hG (by rfl) X_texts_behind.g X_texts_behind.k X_texts_behind.b pass0 (pa_cons (pv 0) (pa_cons (pv 4) (pa_cons (pv 5) pa_nil))))) (pgK_tup (K := K) (n := 2) rfl rfl (pgs_cons (pg_name (i := 6) scsLeastText.nd rfl (Or.inl rfl)) (pgs_cons (pg_name (i := 7) scsLeastText.nd rfl (Or.inl rfl)) pgs_nil))) (pss_one (ps_expr (pe_callMB (cr_heappush (dunit1 hr)) (by rfl) BH.heappush (pa_cons (pv 1) (pa_cons (pe_tup (pa_cons (pe_callB call_len_str (by rfl) B.len PySem.boot_len (pa_cons (pv 6) pa_nil)) (pa_cons (pv 6) (pa_cons (pv 7) pa_nil)))) pa_nil)))))))) pss_nil)))))
      (pss_one (ps_ret pe_non)))))), ?_⟩
  have ok : OkS _ [some (.sh (enc (v_words : (List Str)))), none, none, none, none, none, none, none, none, none] 0 _ Hs H := ok
  refine sq ?_
  refine go_new ok (en_comp (es_list (ev_new (en_callP (m := (fun x : (List Str) × Unit => m_beginning_pairs x.1)) (ea_cons (ev_var rfl) ea_nil)))) eg_tup2 (by decide) (noOwnB rfl) (fun c_begin1 => et_yes) (fun c_begin1 => (ev_tup3 (ev_lenS (ev_ixL (el_ev (ev_var rfl)) (ev_var rfl))) (ev_ixL (el_ev (ev_var rfl)) (ev_var rfl)) (ev_callP (m := (fun x : Str × Str × Unit => m_rest_between x.1 x.2.1)) (ea_cons (ev_ixL (el_ev (ev_var rfl)) (ev_var rfl)) (ea_cons (ev_ixL (el_ev (ev_var rfl)) (ev_var rfl)) ea_nil))))) (fun _ => rfl)) hm ?_
  intro v_queue2 n σ Hs H hm ok
  have ok : OkS _ [some (.sh (enc (v_words : (List Str)))), some (.ow ((v_queue2 : (List (T3 Int Str Str))).map enc)), none, none, none, none, none, none, none, none] n σ Hs H := ok
  refine nx_go ?_
  refine sq ?_
  refine go_heapify ok rfl hm ?_
  intro h_4 σ Hs H hm ok
  have ok : OkS _ [some (.sh (enc (v_words : (List Str)))), some (.ow ((h_4 : (List (T3 Int Str Str))).map enc)), none, none, none, none, none, none, none, none] n σ Hs H := ok
  refine nx_go ?_
  refine sq ?_
  refine go_setNew ok ?_
  intro σ Hs H ok
  have ok : OkS _ [some (.sh (enc (v_words : (List Str)))), some (.ow ((h_4 : (List (T3 Int Str Str))).map enc)), some (.ob fun a => SetXO P w a (([] : List Str) : List Str)), none, none, none, none, none, none, none] n σ Hs H := ok
  refine nx_go ?_
  refine sq ?_
  refine go_while (envOf := fun s5 : (List (T3 Int Str Str)) × (List Str) => [some (.sh (enc (v_words : (List Str)))), some (.ow ((s5.1 : (List (T3 Int Str Str))).map enc)), some (.ob fun a => SetXO P w a (s5.2 : List Str)), none, none, none, none, none, none, none]) ok (fun s5 => (et_truthL (el_own rfl))) hm (.keep (.keep (.keep (.keep (.keep (.keep (.keep (.keep (.keep (.keep Wk.nil)))))))))) ?_ ?_
  · intro s5 n σ Hs H N Nx hN hm ok
    have ok : OkS _ [some (.sh (enc (v_words : (List Str)))), some (.ow ((s5.1 : (List (T3 Int Str Str))).map enc)), some (.ob fun a => SetXO P w a (s5.2 : List Str)), none, none, none, none, none, none, none] n σ Hs H := ok
    refine sq ?_
    refine go_heappop ok rfl eg_tup3 hm ?_
    intro p7 h_6 σ Hs H hm ok
    have ok : OkS _ [some (.sh (enc (v_words : (List Str)))), some (.ow ((h_6 : (List (T3 Int Str Str))).map enc)), some (.ob fun a => SetXO P w a (s5.2 : List Str)), some (.sh (enc (p7.a : Int))), some (.sh (enc (p7.b : Str))), some (.sh (enc (p7.c : Str))), none, none, none, none] n σ Hs H := ok
    refine nx_go ?_
    refine sq ?_
    refine go_if ok (et_test (ev_eqS (ev_var rfl) ev_str)) hm ?_ ?_
    · intro n Hs H hm ok
      have hm := hm.1 rfl
      exact go_ret ok (ev_as (α := Str) some (fun _ => rfl) (ev_var rfl)) hm hrt
    · intro n Hs H hm ok
      have hm := hm.2 rfl
      refine go_next ?_
      refine nx_go ?_
      refine go_if ok (et_test (ev_inZ (neg := true) (ev_var rfl) rfl)) hm ?_ ?_
      · intro n Hs H hm ok
        have hm := hm.1 rfl
        refine sq ?_
        refine go_setAdd ok rfl (ev_var rfl) hm ?_
        intro a_10 n σ Hs H hm ok
        have ok : OkS _ [some (.sh (enc (v_words : (List Str)))), some (.ow ((h_6 : (List (T3 Int Str Str))).map enc)), some (.ob fun a => SetXO P w a ((if a_10 ∈ s5.2 then s5.2 else s5.2 ++ [a_10]) : List Str)), some (.sh (enc (p7.a : Int))), some (.sh (enc (p7.b : Str))), some (.sh (enc (p7.c : Str))), none, none, none, none] n σ Hs H := ok
        refine nx_go ?_
        refine go_for (envOf := fun s11 : (List (T3 Int Str Str)) => [some (.sh (enc (v_words : (List Str)))), some (.ow ((s11 : (List (T3 Int Str Str))).map enc)), some (.ob fun a => SetXO P w a ((if a_10 ∈ s5.2 then s5.2 else s5.2 ++ [a_10]) : List Str)), some (.sh (enc (p7.a : Int))), some (.sh (enc (p7.b : Str))), some (.sh (enc (p7.c : Str))), none, none, none, none]) ok (es_list (ev_new (en_callP (m := (fun x : (List Str) × Str × Str × Unit => m_texts_behind x.1 x.2.1 x.2.2.1)) (ea_cons (ev_var rfl) (ea_cons (ev_var rfl) (ea_cons (ev_var rfl) ea_nil)))))) (fun _ => eg_tup2) hm (fun _ _ h => h) (.keep (.keep (.keep (.keep (.keep (.keep (.keep (.keep (.keep (.keep Wk.nil)))))))))) ?_ ?_
        · intro Hs1 Ab x_12 s11 n σ Hs H N Nx hN hm ok
          have hrt := hrt.up Ab
          have ok : OkS _ [some (.sh (enc (v_words : (List Str)))), some (.ow ((s11 : (List (T3 Int Str Str))).map enc)), some (.ob fun a => SetXO P w a ((if a_10 ∈ s5.2 then s5.2 else s5.2 ++ [a_10]) : List Str)), some (.sh (enc (p7.a : Int))), some (.sh (enc (p7.b : Str))), some (.sh (enc (p7.c : Str))), some (.sh (enc (x_12.1 : Str))), some (.sh (enc (x_12.2 : Str))), none, none] n σ Hs H := ok
          refine go_heappush ok rfl (ev_tup3 (ev_lenS (ev_var rfl)) (ev_var rfl) (ev_var rfl)) hm ?_
          intro h_13 n σ Hs H hm ok
          have ok : OkS _ [some (.sh (enc (v_words : (List Str)))), some (.ow ((h_13 : (List (T3 Int Str Str))).map enc)), some (.ob fun a => SetXO P w a ((if a_10 ∈ s5.2 then s5.2 else s5.2 ++ [a_10]) : List Str)), some (.sh (enc (p7.a : Int))), some (.sh (enc (p7.b : Str))), some (.sh (enc (p7.c : Str))), some (.sh (enc (x_12.1 : Str))), some (.sh (enc (x_12.2 : Str))), none, none] n σ Hs H := ok
          exact hN _ _ _ _ _ hm (ok.wk (.keep (.keep (.keep (.keep (.keep (.keep (.drop (.drop (.keep (.keep Wk.nil)))))))))))
        · intro s11 n σ Hs H hm ok
          have ok : OkS _ [some (.sh (enc (v_words : (List Str)))), some (.ow ((s11 : (List (T3 Int Str Str))).map enc)), some (.ob fun a => SetXO P w a ((if a_10 ∈ s5.2 then s5.2 else s5.2 ++ [a_10]) : List Str)), some (.sh (enc (p7.a : Int))), some (.sh (enc (p7.b : Str))), some (.sh (enc (p7.c : Str))), none, none, none, none] n σ Hs H := ok
          exact hN _ _ _ _ _ hm (ok.wk (.keep (.keep (.keep (.drop (.drop (.drop (.keep (.keep (.keep (.keep Wk.nil)))))))))))
      · intro n Hs H hm ok
        have hm := hm.2 rfl
        refine go_next ?_
        exact hN _ _ _ _ _ hm (ok.wk (.keep (.keep (.keep (.drop (.drop (.drop (.keep (.keep (.keep (.keep Wk.nil)))))))))))
  · intro s5 n σ Hs H hm ok
    have ok : OkS _ [some (.sh (enc (v_words : (List Str)))), some (.ow ((s5.1 : (List (T3 Int Str Str))).map enc)), some (.ob fun a => SetXO P w a (s5.2 : List Str)), none, none, none, none, none, none, none] n σ Hs H := ok
    refine nx_go ?_
    exact go_ret ok (ev_as (α := Unit) (fun _ => (none : (Option Str))) (fun _ => rfl) ev_non) hm hrt

theorem scsCheckOneWay : FnScope ["stock", "text"] ["stock"] (defScope sCheckOneWay) := ⟨rfl, rfl, rfl, by decide +kernel, rfl, by decide +kernel, by decide +kernel⟩
theorem okCheckOneWay {f : Addr} {fd : FuncData} (F : Fun K "check_one_way" "check_one_way" sCheckOneWay f fd) (B : BuA mg) (T : StkC K mg C fi fe fw) {fdw : FuncData} {pp : Addr} (hpp : PropOf K C "words" pp fw) (Gw : FnOk P w K mg base CX0 1 fw fdw ["self"] (spSWords C)) (bw : Binds K fdw ["self"] [])
    {fX_least_text : Addr} {fdX_least_text : FuncData} (X_least_text : CalG P w K mg base 2 "least_text" ["words"] (spP ⟨C, K, P, w⟩ (fun x : (List Str) × Unit => m_least_text x.1)) fX_least_text fdX_least_text) :
    FnG P w K mg base CX0 3 f fd ["stock"] (spP ⟨C, K, P, w⟩ (fun x : Stk × Unit => m_check_one_way x.1)) := by
  refine okP F scsCheckOneWay (by decide) (fun _ => rfl) (fun cdv A outer s H Hs vs Q E x Rt hr hG hm ok hrt => ?_)
  obtain ⟨v_stock, u0⟩ := x
  replace hm : m_check_one_way v_stock 0 Rt := hm
  unfold m_check_one_way at hm
  refine ⟨_, (pss_cons (ps_set (i := 1) scsCheckOneWay.nd rfl (Or.inl rfl) (pe_callG X_least_text.G (hr.mono (by decide)) hG (by rfl) X_least_text.g X_least_text.k X_least_text.b pass0 (pa_cons (pe_prop (pv 0) T.cl hpp Gw (hr.mono (by decide)) bw .nil pass0 rfl) pa_nil)))
      (pss_one (ps_if (pt_cmpR op_notN (pv 1) pe_non (nomark _)) (pss_one ps_never) pss_nil))), ?_⟩
  have ok : OkS _ [some (.sh (enc (v_stock : Stk))), none] 0 _ Hs H := ok
  refine sq ?_
  refine go_set ok (ev_callP (m := (fun x : (List Str) × Unit => m_least_text x.1)) (ea_cons (ev_new (en_words (ev_var rfl))) ea_nil)) hm ?_
  intro v_text1 n σ Hs H hm ok
  have ok : OkS _ [some (.sh (enc (v_stock : Stk))), some (.sh (enc (v_text1 : (Option Str))))] n σ Hs H := ok
  refine nx_go ?_
  refine go_if ok (et_test (ev_notN (ne := by intro a h; cases h) (ev_var rfl))) hm ?_ ?_
  · intro n Hs H hm ok
    have hm := hm.1 rfl
    exact hm.elim
  · intro n Hs H hm ok
    have hm := hm.2 rfl
    refine go_next ?_
    exact hrt () _ _ _ _ _ _ hm ok .non

theorem scsCountsTo : FnScope ["words", "length", "many", "longer", "word"] ["words", "length"] (defScope sCountsTo) := ⟨rfl, rfl, rfl, by decide +kernel, rfl, by decide +kernel, by decide +kernel⟩
theorem okCountsTo {f : Addr} {fd : FuncData} (F : Fun K "counts_to" "counts_to" sCountsTo f fd) (B : BuA mg) :
    FnG P w K mg base CX0 1 f fd ["words", "length"] (spPN ⟨C, K, P, w⟩ (fun x : (List Str) × Int × Unit => m_counts_to x.1 x.2.1)) := by
  refine okPN F scsCountsTo (by decide) (fun _ => rfl) (fun cdv A outer s H Hs vs Q E x Rt hr hG hm ok hrt => ?_)
  obtain ⟨v_words, v_length, u0⟩ := x
  replace hm : m_counts_to v_words v_length 0 Rt := hm
  unfold m_counts_to at hm
  refine ⟨_, (pss_cons (ps_set (i := 2) scsCountsTo.nd rfl (Or.inr rfl) (pe_lst (pa_cons pe_int pa_nil)))
      (pss_cons (ps_for PassesOwn.never rfl (pi_range2 (by rfl) B.range (pa_cons pe_int (pa_cons (pe_op op_add (pv 1) pe_int) pa_nil))) (pg_name (i := 3) scsCountsTo.nd rfl (Or.inr rfl)) (pss_one (ps_expr (peK_bm (K := K) rfl PySem.F.plainAttrs_list PySem.F.slot_list_append PySem.F.type_list_append mt_append (pv 2) (pa_cons (pe_callB (callK_sum (K := K) rfl rfl) (by rfl) B.sum (by decide +kernel) (pa_cons (pe_lc (own := [("word", 4)]) (g := gName 4) rfl scsCountsTo.nd (piK_list (K := K) rfl (pv 0)) (blkOk_by (N := ["words", "length", "many", "longer", "word"]) (sc := defScope sCountsTo) (by decide +kernel)) (fun _ _ _ _ _ => (pg_name (i := 4) scsCountsTo.nd rfl (Or.inl rfl))) (fun _ _ _ _ _ => (pts_one (pt_cmpR op_le (pe_callB call_len_str (by rfl) B.len PySem.boot_len (pa_cons (pv 4) pa_nil)) (pv 3) (nomark _)))) (fun _ _ _ _ _ => (pe_ix (ixK_list (K := K) rfl) (pv 2) (pe_op op_sub (pv 3) (pe_callB call_len_str (by rfl) B.len PySem.boot_len (pa_cons (pv 4) pa_nil))) (fun _ _ => rfl)))) pa_nil)) pa_nil)))))
      (pss_one (ps_ret (pv 2))))), ?_⟩
  have ok : OkS _ [some (.sh (enc (v_words : (List Str)))), some (.sh (enc (v_length : Int))), none, none, none] 0 _ Hs H := ok
  refine sq ?_
  refine go_new ok (en_lst (ei_cons ev_int ei_nil) (by decide)) hm ?_
  intro v_many1 n σ Hs H hm ok
  have ok : OkS _ [some (.sh (enc (v_words : (List Str)))), some (.sh (enc (v_length : Int))), some (.ow ((v_many1 : (List Int)).map enc)), none, none] n σ Hs H := ok
  refine nx_go ?_
  refine sq ?_
  refine go_for (envOf := fun s2 : (List Int) => [some (.sh (enc (v_words : (List Str)))), some (.sh (enc (v_length : Int))), some (.ow ((s2 : (List Int)).map enc)), none, none]) ok (es_range2 ev_int (ev_add (ev_var rfl) ev_int)) (fun _ => eg_name) hm (fun _ _ h => h) (.keep (.keep (.keep (.keep (.keep Wk.nil))))) ?_ ?_
  · intro Hs1 Ab x_3 s2 n σ Hs H N Nx hN hm ok
    have hrt := hrt.up Ab
    have ok : OkS _ [some (.sh (enc (v_words : (List Str)))), some (.sh (enc (v_length : Int))), some (.ow ((s2 : (List Int)).map enc)), some (.sh (enc (x_3 : Int))), none] n σ Hs H := ok
    refine go_append ok rfl (ev_sum (el_en (en_comp (es_list (ev_var rfl)) eg_name (by decide) (noOwnB rfl) (fun c_word5 => (et_test (ev_le (ev_lenS (ev_var rfl)) (ev_var rfl)))) (fun c_word5 => (ev_ixL (el_own rfl) (ev_sub (ev_var rfl) (ev_lenS (ev_var rfl))))) (fun _ => rfl)))) hm ?_
    intro a_4 n σ Hs H hm ok
    have ok : OkS _ [some (.sh (enc (v_words : (List Str)))), some (.sh (enc (v_length : Int))), some (.ow (((s2 ++ [a_4]) : (List Int)).map enc)), some (.sh (enc (x_3 : Int))), none] n σ Hs H := ok
    exact hN _ _ _ _ _ hm (ok.wk (.keep (.keep (.keep (.drop (.keep Wk.nil))))))
  · intro s2 n σ Hs H hm ok
    have ok : OkS _ [some (.sh (enc (v_words : (List Str)))), some (.sh (enc (v_length : Int))), some (.ow ((s2 : (List Int)).map enc)), none, none] n σ Hs H := ok
    refine nx_go ?_
    exact go_retO (i := 2) ok rfl hm hrt

theorem scsCheckLength : FnScope ["length"] ["length"] (defScope sCheckLength) := ⟨rfl, rfl, rfl, by decide +kernel, rfl, by decide +kernel, by decide +kernel⟩
theorem okCheckLength {f : Addr} {fd : FuncData} (F : Fun K "check_length" "check_length" sCheckLength f fd) (B : BuA mg) :
    FnG P w K mg base CX0 1 f fd ["length"] (spP ⟨C, K, P, w⟩ (fun x : Int × Unit => m_check_length x.1)) := by
  refine okP F scsCheckLength (by decide) (fun _ => rfl) (fun cdv A outer s H Hs vs Q E x Rt hr hG hm ok hrt => ?_)
  obtain ⟨v_length, u0⟩ := x
  replace hm : m_check_length v_length 0 Rt := hm
  unfold m_check_length at hm
  refine ⟨_, (pss_one (ps_if (pt_cmpR op_lt (pv 0) pe_int (nomark _)) (pss_one ps_never) pss_nil)), ?_⟩
  have ok : OkS _ [some (.sh (enc (v_length : Int)))] 0 _ Hs H := ok
  refine go_if ok (et_test (ev_lt (ev_var rfl) ev_int)) hm ?_ ?_
  · intro n Hs H hm ok
    have hm := hm.1 rfl
    exact hm.elim
  · intro n Hs H hm ok
    have hm := hm.2 rfl
    refine go_next ?_
    exact hrt () _ _ _ _ _ _ hm ok .non

theorem scsCountTexts : FnScope ["stock", "length"] ["stock", "length"] (defScope sCountTexts) := ⟨rfl, rfl, rfl, by decide +kernel, rfl, by decide +kernel, by decide +kernel⟩
theorem okCountTexts {f : Addr} {fd : FuncData} (F : Fun K "count_texts" "count_texts" sCountTexts f fd) (B : BuA mg) (T : StkC K mg C fi fe fw) {fdw : FuncData} {pp : Addr} (hpp : PropOf K C "words" pp fw) (Gw : FnOk P w K mg base CX0 1 fw fdw ["self"] (spSWords C)) (bw : Binds K fdw ["self"] [])
    {fX_check_length : Addr} {fdX_check_length : FuncData} (X_check_length : CalG P w K mg base 1 "check_length" ["length"] (spP ⟨C, K, P, w⟩ (fun x : Int × Unit => m_check_length x.1)) fX_check_length fdX_check_length)
    {fX_check_one_way : Addr} {fdX_check_one_way : FuncData} (X_check_one_way : CalG P w K mg base 3 "check_one_way" ["stock"] (spP ⟨C, K, P, w⟩ (fun x : Stk × Unit => m_check_one_way x.1)) fX_check_one_way fdX_check_one_way)
    {fX_counts_to : Addr} {fdX_counts_to : FuncData} (X_counts_to : CalG P w K mg base 1 "counts_to" ["words", "length"] (spPN ⟨C, K, P, w⟩ (fun x : (List Str) × Int × Unit => m_counts_to x.1 x.2.1)) fX_counts_to fdX_counts_to) :
    FnG P w K mg base CX0 4 f fd ["stock", "length"] (spP ⟨C, K, P, w⟩ (fun x : Stk × Int × Unit => m_count_texts x.1 x.2.1)) := by
  refine okP F scsCountTexts (by decide) (fun _ => rfl) (fun cdv A outer s H Hs vs Q E x Rt hr hG hm ok hrt => ?_)
  obtain ⟨v_stock, v_length, u0⟩ := x
  replace hm : m_count_texts v_stock v_length 0 Rt := hm
  unfold m_count_texts at hm
  refine ⟨_, (pss_cons (ps_expr (pe_callG X_check_one_way.G (hr.mono (by decide)) hG (by rfl) X_check_one_way.g X_check_one_way.k X_check_one_way.b pass0 (pa_cons (pv 0) pa_nil)))
      (pss_cons (ps_expr (pe_callG X_check_length.G (hr.mono (by decide)) hG (by rfl) X_check_length.g X_check_length.k X_check_length.b pass0 (pa_cons (pv 1) pa_nil)))
      (pss_one (ps_ret (pe_ix (ixK_list (K := K) rfl) (pe_callG X_counts_to.G (hr.mono (by decide)) hG (by rfl) X_counts_to.g X_counts_to.k X_counts_to.b pass0 (pa_cons (pe_prop (pv 0) T.cl hpp Gw (hr.mono (by decide)) bw .nil pass0 rfl) (pa_cons (pv 1) pa_nil))) (pv 1) (fun _ _ => rfl)))))), ?_⟩
  have ok : OkS _ [some (.sh (enc (v_stock : Stk))), some (.sh (enc (v_length : Int)))] 0 _ Hs H := ok
  refine sq ?_
  refine go_drop ok (ev_callP (m := (fun x : Stk × Unit => m_check_one_way x.1)) (ea_cons (ev_var rfl) ea_nil)) hm ?_
  intro u2 n σ Hs H hm ok
  refine nx_go ?_
  refine sq ?_
  refine go_drop ok (ev_callP (m := (fun x : Int × Unit => m_check_length x.1)) (ea_cons (ev_var rfl) ea_nil)) hm ?_
  intro u1 n σ Hs H hm ok
  refine nx_go ?_
  exact go_ret ok (ev_ixL (el_en (en_callP (m := (fun x : (List Str) × Int × Unit => m_counts_to x.1 x.2.1)) (ea_cons (ev_new (en_words (ev_var rfl))) (ea_cons (ev_var rfl) ea_nil)))) (ev_var rfl)) hm hrt

theorem scsLettersIn : FnScope ["words"] ["words"] (defScope sLettersIn) := ⟨rfl, rfl, rfl, by decide +kernel, rfl, by decide +kernel, by decide +kernel⟩
theorem okLettersIn {f : Addr} {fd : FuncData} (F : Fun K "letters_in" "letters_in" sLettersIn f fd) (B : BuA mg) :
    FnG P w K mg base CX0 1 f fd ["words"] (spPN ⟨C, K, P, w⟩ (fun x : (List Str) × Unit => m_letters_in x.1)) := by
  refine okPN F scsLettersIn (by decide) (fun _ => rfl) (fun cdv A outer s H Hs vs Q E x Rt hr hG hm ok hrt => ?_)
  obtain ⟨v_words, u0⟩ := x
  replace hm : m_letters_in v_words 0 Rt := hm
  unfold m_letters_in at hm
  refine ⟨_, (pss_one (ps_ret (pe_callB (cr_sortedX rfl) (by rfl) B.sorted (by decide +kernel) (pa_cons (pe_callTy (cr_setXText rfl) (by rfl) B.set (by decide +kernel) (pa_cons (peK_join (K := K) rfl pe_str (pv 0)) pa_nil)) pa_nil)))), ?_⟩
  have ok : OkS _ [some (.sh (enc (v_words : (List Str))))] 0 _ Hs H := ok
  exact go_retN ok (en_sortedSigns (ev_join ev_str (el_ev (ev_var rfl)))) hm hrt

theorem scsEndsBehind : FnScope ["words", "ends", "sign", "begun", "end"] ["words", "ends", "sign"] (defScope sEndsBehind) := ⟨rfl, rfl, rfl, by decide +kernel, rfl, by decide +kernel, by decide +kernel⟩
theorem okEndsBehind {f : Addr} {fd : FuncData} (F : Fun K "ends_behind" "ends_behind" sEndsBehind f fd) (B : BuA mg) :
    FnG P w K mg base CX0 1 f fd ["words", "ends", "sign"] (spPN ⟨C, K, P, w⟩ (fun x : (List Str) × (List Str) × Str × Unit => m_ends_behind x.1 x.2.1 x.2.2.1)) := by
  refine okPN F scsEndsBehind (by decide) (fun _ => rfl) (fun cdv A outer s H Hs vs Q E x Rt hr hG hm ok hrt => ?_)
  obtain ⟨v_words, v_ends, v_sign, u0⟩ := x
  replace hm : m_ends_behind v_words v_ends v_sign 0 Rt := hm
  unfold m_ends_behind at hm
  refine ⟨_, (pss_cons (ps_set (i := 3) scsEndsBehind.nd rfl (Or.inl rfl) (pe_ifExp (pt_cmpR (opK_in (K := K) rfl) pe_str (pv 1) rfl) (pv 0) (pe_lst pa_nil)))
      (pss_one (ps_ret (pe_lc (own := [("end", 4)]) (g := gName 4) rfl scsEndsBehind.nd (piK_list (K := K) rfl (pe_op op_cat (pv 1) (pv 3))) (blkOk_by (N := ["words", "ends", "sign", "begun", "end"]) (sc := defScope sEndsBehind) (by decide +kernel)) (fun _ _ _ _ _ => (pg_name (i := 4) scsEndsBehind.nd rfl (Or.inl rfl))) (fun _ _ _ _ _ => (pts_one (pt_val (peK_bm (K := K) rfl PySem.F.plainAttrs_str PySem.F.slot_str_startswith PySem.F.type_str_startswith mt_startswith (pv 4) (pa_cons (pv 2) pa_nil))))) (fun _ _ _ _ _ => (pe_slice sl_str (pv 4) (po_some pe_int) po_none)))))), ?_⟩
  have ok : OkS _ [some (.sh (enc (v_words : (List Str)))), some (.sh (enc (v_ends : (List Str)))), some (.sh (enc (v_sign : Str))), none, none] 0 _ Hs H := ok
  refine sq ?_
  refine go_set ok (ev_if (et_test (ev_inS ev_str (el_ev (ev_var rfl)))) (ev_var rfl) (ev_new (en_lst ei_nil (by decide)))) hm ?_
  intro v_begun1 n σ Hs H hm ok
  have ok : OkS _ [some (.sh (enc (v_words : (List Str)))), some (.sh (enc (v_ends : (List Str)))), some (.sh (enc (v_sign : Str))), some (.sh (enc (v_begun1 : (List Str)))), none] n σ Hs H := ok
  refine nx_go ?_
  exact go_retN ok (en_comp (es_list (ev_new (en_cat (el_ev (ev_var rfl)) (el_ev (ev_var rfl))))) eg_name (by decide) (noOwnB rfl) (fun c_end2 => (et_val (ev_startswith (ev_var rfl) (ev_var rfl)))) (fun c_end2 => (ev_slS (ev_var rfl) (eo_some ev_int) eo_none)) (fun _ => rfl)) hm hrt

theorem scsCountCompleted : FnScope ["many", "ends", "length", "end"] ["many", "ends", "length"] (defScope sCountCompleted) := ⟨rfl, rfl, rfl, by decide +kernel, rfl, by decide +kernel, by decide +kernel⟩
theorem okCountCompleted {f : Addr} {fd : FuncData} (F : Fun K "count_completed" "count_completed" sCountCompleted f fd) (B : BuA mg) :
    FnG P w K mg base CX0 1 f fd ["many", "ends", "length"] (spP ⟨C, K, P, w⟩ (fun x : (List Int) × (List Str) × Int × Unit => m_count_completed x.1 x.2.1 x.2.2.1)) := by
  refine okP F scsCountCompleted (by decide) (fun _ => rfl) (fun cdv A outer s H Hs vs Q E x Rt hr hG hm ok hrt => ?_)
  obtain ⟨v_many, v_ends, v_length, u0⟩ := x
  replace hm : m_count_completed v_many v_ends v_length 0 Rt := hm
  unfold m_count_completed at hm
  refine ⟨_, (pss_one (ps_ret (pe_callB (callK_sum (K := K) rfl rfl) (by rfl) B.sum (by decide +kernel) (pa_cons (pe_lc (own := [("end", 3)]) (g := gName 3) rfl scsCountCompleted.nd (piK_list (K := K) rfl (pv 1)) (blkOk_by (N := ["many", "ends", "length", "end"]) (sc := defScope sCountCompleted) (by decide +kernel)) (fun _ _ _ _ _ => (pg_name (i := 3) scsCountCompleted.nd rfl (Or.inl rfl))) (fun _ _ _ _ _ => (pts_one (pt_cmpR op_le (pe_callB call_len_str (by rfl) B.len PySem.boot_len (pa_cons (pv 3) pa_nil)) (pv 2) (nomark _)))) (fun _ _ _ _ _ => (pe_ix (ixK_list (K := K) rfl) (pv 0) (pe_op op_sub (pv 2) (pe_callB call_len_str (by rfl) B.len PySem.boot_len (pa_cons (pv 3) pa_nil))) (fun _ _ => rfl)))) pa_nil)))), ?_⟩
  have ok : OkS _ [some (.sh (enc (v_many : (List Int)))), some (.sh (enc (v_ends : (List Str)))), some (.sh (enc (v_length : Int))), none] 0 _ Hs H := ok
  exact go_ret ok (ev_sum (el_en (en_comp (es_list (ev_var rfl)) eg_name (by decide) (noOwnB rfl) (fun c_end1 => (et_test (ev_le (ev_lenS (ev_var rfl)) (ev_var rfl)))) (fun c_end1 => (ev_ixL (el_ev (ev_var rfl)) (ev_sub (ev_var rfl) (ev_lenS (ev_var rfl))))) (fun _ => rfl)))) hm hrt

theorem scsLetterAtIndex : FnScope ["words", "many", "ends", "behind", "index", "letters", "number", "left", "count"] ["words", "many", "ends", "behind", "index"] (defScope sLetterAtIndex) := ⟨rfl, rfl, rfl, by decide +kernel, rfl, by decide +kernel, by decide +kernel⟩
theorem okLetterAtIndex {f : Addr} {fd : FuncData} (F : Fun K "letter_at_index" "letter_at_index" sLetterAtIndex f fd) (B : BuA mg)
    {fX_count_completed : Addr} {fdX_count_completed : FuncData} (X_count_completed : CalG P w K mg base 1 "count_completed" ["many", "ends", "length"] (spP ⟨C, K, P, w⟩ (fun x : (List Int) × (List Str) × Int × Unit => m_count_completed x.1 x.2.1 x.2.2.1)) fX_count_completed fdX_count_completed)
    {fX_ends_behind : Addr} {fdX_ends_behind : FuncData} (X_ends_behind : CalG P w K mg base 1 "ends_behind" ["words", "ends", "sign"] (spPN ⟨C, K, P, w⟩ (fun x : (List Str) × (List Str) × Str × Unit => m_ends_behind x.1 x.2.1 x.2.2.1)) fX_ends_behind fdX_ends_behind)
    {fX_letters_in : Addr} {fdX_letters_in : FuncData} (X_letters_in : CalG P w K mg base 1 "letters_in" ["words"] (spPN ⟨C, K, P, w⟩ (fun x : (List Str) × Unit => m_letters_in x.1)) fX_letters_in fdX_letters_in) :
    FnG P w K mg base CX0 2 f fd ["words", "many", "ends", "behind", "index"] (spP ⟨C, K, P, w⟩ (fun x : (List Str) × (List Int) × (List Str) × Int × Int × Unit => m_letter_at_index x.1 x.2.1 x.2.2.1 x.2.2.2.1 x.2.2.2.2.1)) := by
  refine okP F scsLetterAtIndex (by decide) (fun _ => rfl) (fun cdv A outer s H Hs vs Q E x Rt hr hG hm ok hrt => ?_)
  obtain ⟨v_words, v_many, v_ends, v_behind, v_index, u0⟩ := x
  replace hm : m_letter_at_index v_words v_many v_ends v_behind v_index 0 Rt := hm
  unfold m_letter_at_index at hm
  refine ⟨_, (pss_cons (ps_set (i := 5) scsLetterAtIndex.nd rfl (Or.inl rfl) (pe_callG X_letters_in.G (hr.mono (by decide)) hG (by rfl) X_letters_in.g X_letters_in.k X_letters_in.b pass0 (pa_cons (pv 0) pa_nil)))
      (pss_cons (ps_set (i := 6) scsLetterAtIndex.nd rfl (Or.inl rfl) pe_int)
      (pss_cons (ps_set (i := 7) scsLetterAtIndex.nd rfl (Or.inl rfl) (pv 4))
      (pss_cons (ps_set (i := 8) scsLetterAtIndex.nd rfl (Or.inl rfl) (pe_callG X_count_completed.G (hr.mono (by decide)) hG (by rfl) X_count_completed.g X_count_completed.k X_count_completed.b pass0 (pa_cons (pv 1) (pa_cons (pe_callG X_ends_behind.G (hr.mono (by decide)) hG (by rfl) X_ends_behind.g X_ends_behind.k X_ends_behind.b pass0 (pa_cons (pv 0) (pa_cons (pv 2) (pa_cons (pe_ix (ixK_list (K := K) rfl) (pv 5) pe_int (fun _ _ => rfl)) pa_nil)))) (pa_cons (pv 3) pa_nil)))))
      (pss_cons (ps_while PassesOwn.never (pt_cmpR op_ge (pv 7) (pv 8) (nomark _)) (pss_cons (ps_aug (i := 7) scsLetterAtIndex.nd rfl (Or.inl rfl) (pv 8) ip_sub)
      (pss_cons (ps_aug (i := 6) scsLetterAtIndex.nd rfl (Or.inl rfl) pe_int ip_add)
      (pss_one (ps_set (i := 8) scsLetterAtIndex.nd rfl (Or.inl rfl) (pe_callG X_count_completed.G (hr.mono (by decide)) hG (by rfl) X_count_completed.g X_count_completed.k X_count_completed.b pass0 (pa_cons (pv 1) (pa_cons (pe_callG X_ends_behind.G (hr.mono (by decide)) hG (by rfl) X_ends_behind.g X_ends_behind.k X_ends_behind.b pass0 (pa_cons (pv 0) (pa_cons (pv 2) (pa_cons (pe_ix (ixK_list (K := K) rfl) (pv 5) (pv 6) (fun _ _ => rfl)) pa_nil)))) (pa_cons (pv 3) pa_nil)))))))))
      (pss_one (ps_ret (pe_tup (pa_cons (pe_ix (ixK_list (K := K) rfl) (pv 5) (pv 6) (fun _ _ => rfl)) (pa_cons (pv 7) pa_nil)))))))))), ?_⟩
  have ok : OkS _ [some (.sh (enc (v_words : (List Str)))), some (.sh (enc (v_many : (List Int)))), some (.sh (enc (v_ends : (List Str)))), some (.sh (enc (v_behind : Int))), some (.sh (enc (v_index : Int))), none, none, none, none] 0 _ Hs H := ok
  refine sq ?_
  refine go_set ok (ev_new (en_callP (m := (fun x : (List Str) × Unit => m_letters_in x.1)) (ea_cons (ev_var rfl) ea_nil))) hm ?_
  intro v_letters1 n σ Hs H hm ok
  have ok : OkS _ [some (.sh (enc (v_words : (List Str)))), some (.sh (enc (v_many : (List Int)))), some (.sh (enc (v_ends : (List Str)))), some (.sh (enc (v_behind : Int))), some (.sh (enc (v_index : Int))), some (.sh (enc (v_letters1 : (List Str)))), none, none, none] n σ Hs H := ok
  refine nx_go ?_
  refine sq ?_
  refine go_set ok ev_int hm ?_
  intro v_number2 n σ Hs H hm ok
  have ok : OkS _ [some (.sh (enc (v_words : (List Str)))), some (.sh (enc (v_many : (List Int)))), some (.sh (enc (v_ends : (List Str)))), some (.sh (enc (v_behind : Int))), some (.sh (enc (v_index : Int))), some (.sh (enc (v_letters1 : (List Str)))), some (.sh (enc (v_number2 : Int))), none, none] n σ Hs H := ok
  refine nx_go ?_
  refine sq ?_
  refine go_set ok (ev_var rfl) hm ?_
  intro v_left3 n σ Hs H hm ok
  have ok : OkS _ [some (.sh (enc (v_words : (List Str)))), some (.sh (enc (v_many : (List Int)))), some (.sh (enc (v_ends : (List Str)))), some (.sh (enc (v_behind : Int))), some (.sh (enc (v_index : Int))), some (.sh (enc (v_letters1 : (List Str)))), some (.sh (enc (v_number2 : Int))), some (.sh (enc (v_left3 : Int))), none] n σ Hs H := ok
  refine nx_go ?_
  refine sq ?_
  refine go_set ok (ev_callP (m := (fun x : (List Int) × (List Str) × Int × Unit => m_count_completed x.1 x.2.1 x.2.2.1)) (ea_cons (ev_var rfl) (ea_cons (ev_new (en_callP (m := (fun x : (List Str) × (List Str) × Str × Unit => m_ends_behind x.1 x.2.1 x.2.2.1)) (ea_cons (ev_var rfl) (ea_cons (ev_var rfl) (ea_cons (ev_ixL (el_ev (ev_var rfl)) ev_int) ea_nil))))) (ea_cons (ev_var rfl) ea_nil)))) hm ?_
  intro v_count4 n σ Hs H hm ok
  have ok : OkS _ [some (.sh (enc (v_words : (List Str)))), some (.sh (enc (v_many : (List Int)))), some (.sh (enc (v_ends : (List Str)))), some (.sh (enc (v_behind : Int))), some (.sh (enc (v_index : Int))), some (.sh (enc (v_letters1 : (List Str)))), some (.sh (enc (v_number2 : Int))), some (.sh (enc (v_left3 : Int))), some (.sh (enc (v_count4 : Int)))] n σ Hs H := ok
  refine nx_go ?_
  refine sq ?_
  refine go_while (envOf := fun s5 : Int × Int × Int => [some (.sh (enc (v_words : (List Str)))), some (.sh (enc (v_many : (List Int)))), some (.sh (enc (v_ends : (List Str)))), some (.sh (enc (v_behind : Int))), some (.sh (enc (v_index : Int))), some (.sh (enc (v_letters1 : (List Str)))), some (.sh (enc (s5.1 : Int))), some (.sh (enc (s5.2.1 : Int))), some (.sh (enc (s5.2.2 : Int)))]) ok (fun s5 => (et_test (ev_ge (ev_var rfl) (ev_var rfl)))) hm (.keep (.keep (.keep (.keep (.keep (.keep (.keep (.keep (.keep Wk.nil))))))))) ?_ ?_
  · intro s5 n σ Hs H N Nx hN hm ok
    have ok : OkS _ [some (.sh (enc (v_words : (List Str)))), some (.sh (enc (v_many : (List Int)))), some (.sh (enc (v_ends : (List Str)))), some (.sh (enc (v_behind : Int))), some (.sh (enc (v_index : Int))), some (.sh (enc (v_letters1 : (List Str)))), some (.sh (enc (s5.1 : Int))), some (.sh (enc (s5.2.1 : Int))), some (.sh (enc (s5.2.2 : Int)))] n σ Hs H := ok
    refine sq ?_
    refine go_aug2 (g := fun a b => a - b) ok rfl (ev_var rfl) hm ?_
    intro v_left6 n σ Hs H hm ok
    have ok : OkS _ [some (.sh (enc (v_words : (List Str)))), some (.sh (enc (v_many : (List Int)))), some (.sh (enc (v_ends : (List Str)))), some (.sh (enc (v_behind : Int))), some (.sh (enc (v_index : Int))), some (.sh (enc (v_letters1 : (List Str)))), some (.sh (enc (s5.1 : Int))), some (.sh (enc (v_left6 : Int))), some (.sh (enc (s5.2.2 : Int)))] n σ Hs H := ok
    refine nx_go ?_
    refine sq ?_
    refine go_aug2 (g := fun a b => a + b) ok rfl ev_int hm ?_
    intro v_number7 n σ Hs H hm ok
    have ok : OkS _ [some (.sh (enc (v_words : (List Str)))), some (.sh (enc (v_many : (List Int)))), some (.sh (enc (v_ends : (List Str)))), some (.sh (enc (v_behind : Int))), some (.sh (enc (v_index : Int))), some (.sh (enc (v_letters1 : (List Str)))), some (.sh (enc (v_number7 : Int))), some (.sh (enc (v_left6 : Int))), some (.sh (enc (s5.2.2 : Int)))] n σ Hs H := ok
    refine nx_go ?_
    refine go_set ok (ev_callP (m := (fun x : (List Int) × (List Str) × Int × Unit => m_count_completed x.1 x.2.1 x.2.2.1)) (ea_cons (ev_var rfl) (ea_cons (ev_new (en_callP (m := (fun x : (List Str) × (List Str) × Str × Unit => m_ends_behind x.1 x.2.1 x.2.2.1)) (ea_cons (ev_var rfl) (ea_cons (ev_var rfl) (ea_cons (ev_ixL (el_ev (ev_var rfl)) (ev_var rfl)) ea_nil))))) (ea_cons (ev_var rfl) ea_nil)))) hm ?_
    intro v_count8 n σ Hs H hm ok
    have ok : OkS _ [some (.sh (enc (v_words : (List Str)))), some (.sh (enc (v_many : (List Int)))), some (.sh (enc (v_ends : (List Str)))), some (.sh (enc (v_behind : Int))), some (.sh (enc (v_index : Int))), some (.sh (enc (v_letters1 : (List Str)))), some (.sh (enc (v_number7 : Int))), some (.sh (enc (v_left6 : Int))), some (.sh (enc (v_count8 : Int)))] n σ Hs H := ok
    exact hN _ _ _ _ _ hm (ok.wk (.keep (.keep (.keep (.keep (.keep (.keep (.keep (.keep (.keep Wk.nil))))))))))
  · intro s5 n σ Hs H hm ok
    have ok : OkS _ [some (.sh (enc (v_words : (List Str)))), some (.sh (enc (v_many : (List Int)))), some (.sh (enc (v_ends : (List Str)))), some (.sh (enc (v_behind : Int))), some (.sh (enc (v_index : Int))), some (.sh (enc (v_letters1 : (List Str)))), some (.sh (enc (s5.1 : Int))), some (.sh (enc (s5.2.1 : Int))), some (.sh (enc (s5.2.2 : Int)))] n σ Hs H := ok
    refine nx_go ?_
    exact go_ret ok (ev_tup2 (ev_ixL (el_ev (ev_var rfl)) (ev_var rfl)) (ev_var rfl)) hm hrt

theorem scsNthText : FnScope ["stock", "length", "index", "words", "many", "signs", "ends", "left", "behind", "sign"] ["stock", "length", "index"] (defScope sNthText) := ⟨rfl, rfl, rfl, by decide +kernel, rfl, by decide +kernel, by decide +kernel⟩
theorem okNthText {f : Addr} {fd : FuncData} (F : Fun K "nth_text" "nth_text" sNthText f fd) (B : BuA mg) (T : StkC K mg C fi fe fw) {fdw : FuncData} {pp : Addr} (hpp : PropOf K C "words" pp fw) (Gw : FnOk P w K mg base CX0 1 fw fdw ["self"] (spSWords C)) (bw : Binds K fdw ["self"] [])
    {fX_check_length : Addr} {fdX_check_length : FuncData} (X_check_length : CalG P w K mg base 1 "check_length" ["length"] (spP ⟨C, K, P, w⟩ (fun x : Int × Unit => m_check_length x.1)) fX_check_length fdX_check_length)
    {fX_check_one_way : Addr} {fdX_check_one_way : FuncData} (X_check_one_way : CalG P w K mg base 3 "check_one_way" ["stock"] (spP ⟨C, K, P, w⟩ (fun x : Stk × Unit => m_check_one_way x.1)) fX_check_one_way fdX_check_one_way)
    {fX_counts_to : Addr} {fdX_counts_to : FuncData} (X_counts_to : CalG P w K mg base 1 "counts_to" ["words", "length"] (spPN ⟨C, K, P, w⟩ (fun x : (List Str) × Int × Unit => m_counts_to x.1 x.2.1)) fX_counts_to fdX_counts_to)
    {fX_ends_behind : Addr} {fdX_ends_behind : FuncData} (X_ends_behind : CalG P w K mg base 1 "ends_behind" ["words", "ends", "sign"] (spPN ⟨C, K, P, w⟩ (fun x : (List Str) × (List Str) × Str × Unit => m_ends_behind x.1 x.2.1 x.2.2.1)) fX_ends_behind fdX_ends_behind)
    {fX_letter_at_index : Addr} {fdX_letter_at_index : FuncData} (X_letter_at_index : CalG P w K mg base 2 "letter_at_index" ["words", "many", "ends", "behind", "index"] (spP ⟨C, K, P, w⟩ (fun x : (List Str) × (List Int) × (List Str) × Int × Int × Unit => m_letter_at_index x.1 x.2.1 x.2.2.1 x.2.2.2.1 x.2.2.2.2.1)) fX_letter_at_index fdX_letter_at_index) :
    FnG P w K mg base CX0 4 f fd ["stock", "length", "index"] (spP ⟨C, K, P, w⟩ (fun x : Stk × Int × Int × Unit => m_nth_text x.1 x.2.1 x.2.2.1)) := by
  refine okP F scsNthText (by decide) (fun _ => rfl) (fun cdv A outer s H Hs vs Q E x Rt hr hG hm ok hrt => ?_)
  obtain ⟨v_stock, v_length, v_index, u0⟩ := x
  replace hm : m_nth_text v_stock v_length v_index 0 Rt := hm
  unfold m_nth_text at hm
  refine ⟨_, (pss_cons (ps_expr (pe_callG X_check_one_way.G (hr.mono (by decide)) hG (by rfl) X_check_one_way.g X_check_one_way.k X_check_one_way.b pass0 (pa_cons (pv 0) pa_nil)))
      (pss_cons (ps_expr (pe_callG X_check_length.G (hr.mono (by decide)) hG (by rfl) X_check_length.g X_check_length.k X_check_length.b pass0 (pa_cons (pv 1) pa_nil)))
      (pss_cons (ps_set (i := 3) scsNthText.nd rfl (Or.inl rfl) (pe_prop (pv 0) T.cl hpp Gw (hr.mono (by decide)) bw .nil pass0 rfl))
      (pss_cons (ps_set (i := 4) scsNthText.nd rfl (Or.inl rfl) (pe_callG X_counts_to.G (hr.mono (by decide)) hG (by rfl) X_counts_to.g X_counts_to.k X_counts_to.b pass0 (pa_cons (pv 3) (pa_cons (pv 1) pa_nil))))
      (pss_cons (ps_if (pt_not (pt_chain op_le op_lt pe_int (pv 2) (pe_ix (ixK_list (K := K) rfl) (pv 4) (pv 1) (fun _ _ => rfl)))) (pss_one ps_never) pss_nil)
      (pss_cons (ps_set (i := 5) scsNthText.nd rfl (Or.inl rfl) (pe_lst pa_nil))
      (pss_cons (ps_set (i := 6) scsNthText.nd rfl (Or.inl rfl) (pe_lst (pa_cons pe_str pa_nil)))
      (pss_cons (ps_set (i := 7) scsNthText.nd rfl (Or.inl rfl) (pv 2))
      (pss_cons (ps_for PassesOwn.never rfl (pi_revR (by rfl) B.reversed (prg_1 (by rfl) B.range (pv 1))) (pg_name (i := 8) scsNthText.nd rfl (Or.inl rfl)) (pss_cons (ps_asg (pe_callG X_letter_at_index.G (hr.mono (by decide)) hG (by rfl) X_letter_at_index.g X_letter_at_index.k X_letter_at_index.b pass0 (pa_cons (pv 3) (pa_cons (pv 4) (pa_cons (pv 6) (pa_cons (pv 8) (pa_cons (pv 7) pa_nil)))))) (pgK_tup (K := K) (n := 2) rfl rfl (pgs_cons (pg_name (i := 9) scsNthText.nd rfl (Or.inl rfl)) (pgs_cons (pg_name (i := 7) scsNthText.nd rfl (Or.inl rfl)) pgs_nil))))
      (pss_cons (ps_expr (peK_bm (K := K) rfl PySem.F.plainAttrs_list PySem.F.slot_list_append PySem.F.type_list_append mt_append (pv 5) (pa_cons (pv 9) pa_nil)))
      (pss_one (ps_set (i := 6) scsNthText.nd rfl (Or.inl rfl) (pe_callG X_ends_behind.G (hr.mono (by decide)) hG (by rfl) X_ends_behind.g X_ends_behind.k X_ends_behind.b pass0 (pa_cons (pv 3) (pa_cons (pv 6) (pa_cons (pv 9) pa_nil)))))))))
      (pss_one (ps_ret (peK_join (K := K) rfl pe_str (pv 5))))))))))))), ?_⟩
  have ok : OkS _ [some (.sh (enc (v_stock : Stk))), some (.sh (enc (v_length : Int))), some (.sh (enc (v_index : Int))), none, none, none, none, none, none, none] 0 _ Hs H := ok
  refine sq ?_
  refine go_drop ok (ev_callP (m := (fun x : Stk × Unit => m_check_one_way x.1)) (ea_cons (ev_var rfl) ea_nil)) hm ?_
  intro u14 n σ Hs H hm ok
  refine nx_go ?_
  refine sq ?_
  refine go_drop ok (ev_callP (m := (fun x : Int × Unit => m_check_length x.1)) (ea_cons (ev_var rfl) ea_nil)) hm ?_
  intro u13 n σ Hs H hm ok
  refine nx_go ?_
  refine sq ?_
  refine go_set ok (ev_new (en_words (ev_var rfl))) hm ?_
  intro v_words1 n σ Hs H hm ok
  have ok : OkS _ [some (.sh (enc (v_stock : Stk))), some (.sh (enc (v_length : Int))), some (.sh (enc (v_index : Int))), some (.sh (enc (v_words1 : (List Str)))), none, none, none, none, none, none] n σ Hs H := ok
  refine nx_go ?_
  refine sq ?_
  refine go_set ok (ev_new (en_callP (m := (fun x : (List Str) × Int × Unit => m_counts_to x.1 x.2.1)) (ea_cons (ev_var rfl) (ea_cons (ev_var rfl) ea_nil)))) hm ?_
  intro v_many2 n σ Hs H hm ok
  have ok : OkS _ [some (.sh (enc (v_stock : Stk))), some (.sh (enc (v_length : Int))), some (.sh (enc (v_index : Int))), some (.sh (enc (v_words1 : (List Str)))), some (.sh (enc (v_many2 : (List Int)))), none, none, none, none, none] n σ Hs H := ok
  refine nx_go ?_
  refine sq ?_
  refine go_if ok (et_not (et_test (ev_chain rfl rfl ev_int (ev_var rfl) (ev_ixL (el_ev (ev_var rfl)) (ev_var rfl))))) hm ?_ ?_
  · intro n Hs H hm ok
    have hm := hm.1 rfl
    exact hm.elim
  · intro n Hs H hm ok
    have hm := hm.2 rfl
    refine go_next ?_
    refine nx_go ?_
    refine sq ?_
    refine go_new ok (en_lst ei_nil (by decide)) hm ?_
    intro v_signs4 n σ Hs H hm ok
    have ok : OkS _ [some (.sh (enc (v_stock : Stk))), some (.sh (enc (v_length : Int))), some (.sh (enc (v_index : Int))), some (.sh (enc (v_words1 : (List Str)))), some (.sh (enc (v_many2 : (List Int)))), some (.ow ((v_signs4 : (List Str)).map enc)), none, none, none, none] n σ Hs H := ok
    refine nx_go ?_
    refine sq ?_
    refine go_set ok (ev_new (en_lst (ei_cons ev_str ei_nil) (by decide))) hm ?_
    intro v_ends5 n σ Hs H hm ok
    have ok : OkS _ [some (.sh (enc (v_stock : Stk))), some (.sh (enc (v_length : Int))), some (.sh (enc (v_index : Int))), some (.sh (enc (v_words1 : (List Str)))), some (.sh (enc (v_many2 : (List Int)))), some (.ow ((v_signs4 : (List Str)).map enc)), some (.sh (enc (v_ends5 : (List Str)))), none, none, none] n σ Hs H := ok
    refine nx_go ?_
    refine sq ?_
    refine go_set ok (ev_var rfl) hm ?_
    intro v_left6 n σ Hs H hm ok
    have ok : OkS _ [some (.sh (enc (v_stock : Stk))), some (.sh (enc (v_length : Int))), some (.sh (enc (v_index : Int))), some (.sh (enc (v_words1 : (List Str)))), some (.sh (enc (v_many2 : (List Int)))), some (.ow ((v_signs4 : (List Str)).map enc)), some (.sh (enc (v_ends5 : (List Str)))), some (.sh (enc (v_left6 : Int))), none, none] n σ Hs H := ok
    refine nx_go ?_
    refine sq ?_
    refine go_for (envOf := fun s7 : (List Str) × (List Str) × Int => [some (.sh (enc (v_stock : Stk))), some (.sh (enc (v_length : Int))), some (.sh (enc (v_index : Int))), some (.sh (enc (v_words1 : (List Str)))), some (.sh (enc (v_many2 : (List Int)))), some (.ow ((s7.1 : (List Str)).map enc)), some (.sh (enc (s7.2.1 : (List Str)))), some (.sh (enc (s7.2.2 : Int))), none, none]) ok (es_revRange (ev_var rfl)) (fun _ => eg_name) hm (fun _ _ h => h) (.keep (.keep (.keep (.keep (.keep (.keep (.keep (.keep (.keep (.keep Wk.nil)))))))))) ?_ ?_
    · intro Hs1 Ab x_8 s7 n σ Hs H N Nx hN hm ok
      have hrt := hrt.up Ab
      have ok : OkS _ [some (.sh (enc (v_stock : Stk))), some (.sh (enc (v_length : Int))), some (.sh (enc (v_index : Int))), some (.sh (enc (v_words1 : (List Str)))), some (.sh (enc (v_many2 : (List Int)))), some (.ow ((s7.1 : (List Str)).map enc)), some (.sh (enc (s7.2.1 : (List Str)))), some (.sh (enc (s7.2.2 : Int))), some (.sh (enc (x_8 : Int))), none] n σ Hs H := ok
      refine sq ?_
      refine go_asg ok (ev_callP (m := (fun x : (List Str) × (List Int) × (List Str) × Int × Int × Unit => m_letter_at_index x.1 x.2.1 x.2.2.1 x.2.2.2.1 x.2.2.2.2.1)) (ea_cons (ev_var rfl) (ea_cons (ev_var rfl) (ea_cons (ev_var rfl) (ea_cons (ev_var rfl) (ea_cons (ev_var rfl) ea_nil)))))) eg_tup2 hm ?_
      intro p9 n σ Hs H hm ok
      have ok : OkS _ [some (.sh (enc (v_stock : Stk))), some (.sh (enc (v_length : Int))), some (.sh (enc (v_index : Int))), some (.sh (enc (v_words1 : (List Str)))), some (.sh (enc (v_many2 : (List Int)))), some (.ow ((s7.1 : (List Str)).map enc)), some (.sh (enc (s7.2.1 : (List Str)))), some (.sh (enc (p9.2 : Int))), some (.sh (enc (x_8 : Int))), some (.sh (enc (p9.1 : Str)))] n σ Hs H := ok
      refine nx_go ?_
      refine sq ?_
      refine go_append ok rfl (ev_var rfl) hm ?_
      intro a_10 n σ Hs H hm ok
      have ok : OkS _ [some (.sh (enc (v_stock : Stk))), some (.sh (enc (v_length : Int))), some (.sh (enc (v_index : Int))), some (.sh (enc (v_words1 : (List Str)))), some (.sh (enc (v_many2 : (List Int)))), some (.ow (((s7.1 ++ [a_10]) : (List Str)).map enc)), some (.sh (enc (s7.2.1 : (List Str)))), some (.sh (enc (p9.2 : Int))), some (.sh (enc (x_8 : Int))), some (.sh (enc (p9.1 : Str)))] n σ Hs H := ok
      refine nx_go ?_
      refine go_set ok (ev_new (en_callP (m := (fun x : (List Str) × (List Str) × Str × Unit => m_ends_behind x.1 x.2.1 x.2.2.1)) (ea_cons (ev_var rfl) (ea_cons (ev_var rfl) (ea_cons (ev_var rfl) ea_nil))))) hm ?_
      intro v_ends11 n σ Hs H hm ok
      have ok : OkS _ [some (.sh (enc (v_stock : Stk))), some (.sh (enc (v_length : Int))), some (.sh (enc (v_index : Int))), some (.sh (enc (v_words1 : (List Str)))), some (.sh (enc (v_many2 : (List Int)))), some (.ow (((s7.1 ++ [a_10]) : (List Str)).map enc)), some (.sh (enc (v_ends11 : (List Str)))), some (.sh (enc (p9.2 : Int))), some (.sh (enc (x_8 : Int))), some (.sh (enc (p9.1 : Str)))] n σ Hs H := ok
      exact hN _ _ _ _ _ hm (ok.wk (.keep (.keep (.keep (.keep (.keep (.keep (.keep (.keep (.drop (.drop Wk.nil)))))))))))
    · intro s7 n σ Hs H hm ok
      have ok : OkS _ [some (.sh (enc (v_stock : Stk))), some (.sh (enc (v_length : Int))), some (.sh (enc (v_index : Int))), some (.sh (enc (v_words1 : (List Str)))), some (.sh (enc (v_many2 : (List Int)))), some (.ow ((s7.1 : (List Str)).map enc)), some (.sh (enc (s7.2.1 : (List Str)))), some (.sh (enc (s7.2.2 : Int))), none, none] n σ Hs H := ok
      refine nx_go ?_
      exact go_ret ok (ev_join ev_str (el_own rfl)) hm hrt

theorem scsTextIndex : FnScope ["stock", "text", "words", "many", "letters", "index", "ends", "behind", "sign", "less", "letter", "told"] ["stock", "text"] (defScope sTextIndex) := ⟨rfl, rfl, rfl, by decide +kernel, rfl, by decide +kernel, by decide +kernel⟩
theorem okTextIndex {f : Addr} {fd : FuncData} (F : Fun K "text_index" "text_index" sTextIndex f fd) (B : BuA mg) (T : StkC K mg C fi fe fw) {fdw : FuncData} {pp : Addr} (hpp : PropOf K C "words" pp fw) (Gw : FnOk P w K mg base CX0 1 fw fdw ["self"] (spSWords C)) (bw : Binds K fdw ["self"] [])
    {fX_check_one_way : Addr} {fdX_check_one_way : FuncData} (X_check_one_way : CalG P w K mg base 3 "check_one_way" ["stock"] (spP ⟨C, K, P, w⟩ (fun x : Stk × Unit => m_check_one_way x.1)) fX_check_one_way fdX_check_one_way)
    {fX_count_completed : Addr} {fdX_count_completed : FuncData} (X_count_completed : CalG P w K mg base 1 "count_completed" ["many", "ends", "length"] (spP ⟨C, K, P, w⟩ (fun x : (List Int) × (List Str) × Int × Unit => m_count_completed x.1 x.2.1 x.2.2.1)) fX_count_completed fdX_count_completed)
    {fX_counts_to : Addr} {fdX_counts_to : FuncData} (X_counts_to : CalG P w K mg base 1 "counts_to" ["words", "length"] (spPN ⟨C, K, P, w⟩ (fun x : (List Str) × Int × Unit => m_counts_to x.1 x.2.1)) fX_counts_to fdX_counts_to)
    {fX_ends_behind : Addr} {fdX_ends_behind : FuncData} (X_ends_behind : CalG P w K mg base 1 "ends_behind" ["words", "ends", "sign"] (spPN ⟨C, K, P, w⟩ (fun x : (List Str) × (List Str) × Str × Unit => m_ends_behind x.1 x.2.1 x.2.2.1)) fX_ends_behind fdX_ends_behind)
    {fX_is_made : Addr} {fdX_is_made : FuncData} (X_is_made : CalG P w K mg base 2 "is_made" ["words", "text"] (spP ⟨C, K, P, w⟩ (fun x : (List Str) × Str × Unit => m_is_made x.1 x.2.1)) fX_is_made fdX_is_made)
    {fX_letters_in : Addr} {fdX_letters_in : FuncData} (X_letters_in : CalG P w K mg base 1 "letters_in" ["words"] (spPN ⟨C, K, P, w⟩ (fun x : (List Str) × Unit => m_letters_in x.1)) fX_letters_in fdX_letters_in) :
    FnG P w K mg base CX0 4 f fd ["stock", "text"] (spP ⟨C, K, P, w⟩ (fun x : Stk × Str × Unit => m_text_index x.1 x.2.1)) := by
  refine okP F scsTextIndex (by decide) (fun _ => rfl) (fun cdv A outer s H Hs vs Q E x Rt hr hG hm ok hrt => ?_)
  obtain ⟨v_stock, v_text, u0⟩ := x
  replace hm : m_text_index v_stock v_text 0 Rt := hm
  unfold m_text_index at hm
  refine ⟨_, (pss_cons (ps_expr (pe_callG X_check_one_way.G (hr.mono (by decide)) hG (by rfl) X_check_one_way.g X_check_one_way.k X_check_one_way.b pass0 (pa_cons (pv 0) pa_nil)))
      (pss_cons (ps_set (i := 2) scsTextIndex.nd rfl (Or.inr rfl) (pe_prop (pv 0) T.cl hpp Gw (hr.mono (by decide)) bw .nil pass0 rfl))
      (pss_cons (ps_if (pt_not (pt_val (pe_callG X_is_made.G (hr.mono (by decide)) hG (by rfl) X_is_made.g X_is_made.k X_is_made.b pass0 (pa_cons (pv 2) (pa_cons (pv 1) pa_nil))))) (pss_one ps_never) pss_nil)
      (pss_cons (ps_set (i := 3) scsTextIndex.nd rfl (Or.inr rfl) (pe_callG X_counts_to.G (hr.mono (by decide)) hG (by rfl) X_counts_to.g X_counts_to.k X_counts_to.b pass0 (pa_cons (pv 2) (pa_cons (pe_callB call_len_str (by rfl) B.len PySem.boot_len (pa_cons (pv 1) pa_nil)) pa_nil))))
      (pss_cons (ps_set (i := 4) scsTextIndex.nd rfl (Or.inl rfl) (pe_callG X_letters_in.G (hr.mono (by decide)) hG (by rfl) X_letters_in.g X_letters_in.k X_letters_in.b pass0 (pa_cons (pv 2) pa_nil)))
      (pss_cons (ps_set (i := 5) scsTextIndex.nd rfl (Or.inl rfl) pe_int)
      (pss_cons (ps_set (i := 6) scsTextIndex.nd rfl (Or.inr rfl) (pe_lst (pa_cons pe_str pa_nil)))
      (pss_cons (ps_set (i := 7) scsTextIndex.nd rfl (Or.inr rfl) (pe_callB call_len_str (by rfl) B.len PySem.boot_len (pa_cons (pv 1) pa_nil)))
      (pss_cons (ps_for PassesOwn.never rfl (pi_str (pv 1)) (pg_name (i := 8) scsTextIndex.nd rfl (Or.inr rfl)) (pss_cons (ps_aug (i := 7) scsTextIndex.nd rfl (Or.inr rfl) pe_int ip_sub)
      (pss_cons (ps_setLc (i := 9) (own := [("letter", 10)]) (g := gName 10) rfl scsTextIndex.nd rfl rfl (sw_true rfl rfl rfl (by decide +kernel)) (piK_list (K := K) rfl (pv 4)) (blkOk_by (N := ["stock", "text", "words", "many", "letters", "index", "ends", "behind", "sign", "less", "letter", "told"]) (sc := defScope sTextIndex) (by decide +kernel)) (fun _ _ _ _ _ => (pg_name (i := 10) scsTextIndex.nd rfl (Or.inl rfl))) (fun _ _ _ _ _ => (pts_one (pt_cmpR op_lt_str (pv 10) (pv 8) (nomark _)))) (fun _ _ _ _ _ => (pe_callG X_ends_behind.G (hr.mono (by decide)) hG (by rfl) X_ends_behind.g X_ends_behind.k X_ends_behind.b pass0 (pa_cons (pv 2) (pa_cons (pv 6) (pa_cons (pv 10) pa_nil))))))
      (pss_cons (ps_aug (i := 5) scsTextIndex.nd rfl (Or.inl rfl) (pe_callB (callK_sum (K := K) rfl rfl) (by rfl) B.sum (by decide +kernel) (pa_cons (pe_lc (own := [("told", 11)]) (g := gName 11) (tt := tYes) rfl scsTextIndex.nd (piK_list (K := K) rfl (pv 9)) (blkOk_by (N := ["stock", "text", "words", "many", "letters", "index", "ends", "behind", "sign", "less", "letter", "told"]) (sc := defScope sTextIndex) (by decide +kernel)) (fun _ _ _ _ _ => (pg_name (i := 11) scsTextIndex.nd rfl (Or.inl rfl))) (fun _ _ _ _ _ => pts_nil) (fun _ _ _ _ _ => (pe_callG X_count_completed.G (hr.mono (by decide)) hG (by rfl) X_count_completed.g X_count_completed.k X_count_completed.b pass0 (pa_cons (pv 3) (pa_cons (pv 11) (pa_cons (pv 7) pa_nil)))))) pa_nil)) ip_add)
      (pss_one (ps_set (i := 6) scsTextIndex.nd rfl (Or.inr rfl) (pe_callG X_ends_behind.G (hr.mono (by decide)) hG (by rfl) X_ends_behind.g X_ends_behind.k X_ends_behind.b pass0 (pa_cons (pv 2) (pa_cons (pv 6) (pa_cons (pv 8) pa_nil))))))))))
      (pss_one (ps_ret (pv 5)))))))))))), ?_⟩
  have ok : OkS _ [some (.sh (enc (v_stock : Stk))), some (.sh (enc (v_text : Str))), none, none, none, none, none, none, none, none, none, none] 0 _ Hs H := ok
  refine sq ?_
  refine go_drop ok (ev_callP (m := (fun x : Stk × Unit => m_check_one_way x.1)) (ea_cons (ev_var rfl) ea_nil)) hm ?_
  intro u18 n σ Hs H hm ok
  refine nx_go ?_
  refine sq ?_
  refine go_set ok (ev_new (en_words (ev_var rfl))) hm ?_
  intro v_words1 n σ Hs H hm ok
  have ok : OkS _ [some (.sh (enc (v_stock : Stk))), some (.sh (enc (v_text : Str))), some (.sh (enc (v_words1 : (List Str)))), none, none, none, none, none, none, none, none, none] n σ Hs H := ok
  refine nx_go ?_
  refine sq ?_
  refine go_if ok (et_not (et_val (ev_callP (m := (fun x : (List Str) × Str × Unit => m_is_made x.1 x.2.1)) (ea_cons (ev_var rfl) (ea_cons (ev_var rfl) ea_nil))))) hm ?_ ?_
  · intro n Hs H hm ok
    have hm := hm.1 rfl
    exact hm.elim
  · intro n Hs H hm ok
    have hm := hm.2 rfl
    refine go_next ?_
    refine nx_go ?_
    refine sq ?_
    refine go_set ok (ev_new (en_callP (m := (fun x : (List Str) × Int × Unit => m_counts_to x.1 x.2.1)) (ea_cons (ev_var rfl) (ea_cons (ev_lenS (ev_var rfl)) ea_nil)))) hm ?_
    intro v_many3 n σ Hs H hm ok
    have ok : OkS _ [some (.sh (enc (v_stock : Stk))), some (.sh (enc (v_text : Str))), some (.sh (enc (v_words1 : (List Str)))), some (.sh (enc (v_many3 : (List Int)))), none, none, none, none, none, none, none, none] n σ Hs H := ok
    refine nx_go ?_
    refine sq ?_
    refine go_set ok (ev_new (en_callP (m := (fun x : (List Str) × Unit => m_letters_in x.1)) (ea_cons (ev_var rfl) ea_nil))) hm ?_
    intro v_letters4 n σ Hs H hm ok
    have ok : OkS _ [some (.sh (enc (v_stock : Stk))), some (.sh (enc (v_text : Str))), some (.sh (enc (v_words1 : (List Str)))), some (.sh (enc (v_many3 : (List Int)))), some (.sh (enc (v_letters4 : (List Str)))), none, none, none, none, none, none, none] n σ Hs H := ok
    refine nx_go ?_
    refine sq ?_
    refine go_set ok ev_int hm ?_
    intro v_index5 n σ Hs H hm ok
    have ok : OkS _ [some (.sh (enc (v_stock : Stk))), some (.sh (enc (v_text : Str))), some (.sh (enc (v_words1 : (List Str)))), some (.sh (enc (v_many3 : (List Int)))), some (.sh (enc (v_letters4 : (List Str)))), some (.sh (enc (v_index5 : Int))), none, none, none, none, none, none] n σ Hs H := ok
    refine nx_go ?_
    refine sq ?_
    refine go_set ok (ev_new (en_lst (ei_cons ev_str ei_nil) (by decide))) hm ?_
    intro v_ends6 n σ Hs H hm ok
    have ok : OkS _ [some (.sh (enc (v_stock : Stk))), some (.sh (enc (v_text : Str))), some (.sh (enc (v_words1 : (List Str)))), some (.sh (enc (v_many3 : (List Int)))), some (.sh (enc (v_letters4 : (List Str)))), some (.sh (enc (v_index5 : Int))), some (.sh (enc (v_ends6 : (List Str)))), none, none, none, none, none] n σ Hs H := ok
    refine nx_go ?_
    refine sq ?_
    refine go_set ok (ev_lenS (ev_var rfl)) hm ?_
    intro v_behind7 n σ Hs H hm ok
    have ok : OkS _ [some (.sh (enc (v_stock : Stk))), some (.sh (enc (v_text : Str))), some (.sh (enc (v_words1 : (List Str)))), some (.sh (enc (v_many3 : (List Int)))), some (.sh (enc (v_letters4 : (List Str)))), some (.sh (enc (v_index5 : Int))), some (.sh (enc (v_ends6 : (List Str)))), some (.sh (enc (v_behind7 : Int))), none, none, none, none] n σ Hs H := ok
    refine nx_go ?_
    refine sq ?_
    refine go_for (envOf := fun s8 : Int × (List Str) × Int => [some (.sh (enc (v_stock : Stk))), some (.sh (enc (v_text : Str))), some (.sh (enc (v_words1 : (List Str)))), some (.sh (enc (v_many3 : (List Int)))), some (.sh (enc (v_letters4 : (List Str)))), some (.sh (enc (s8.1 : Int))), some (.sh (enc (s8.2.1 : (List Str)))), some (.sh (enc (s8.2.2 : Int))), none, none, none, none]) ok (es_str (ev_var rfl)) (fun _ => eg_name) hm (fun _ _ h => h) (.keep (.keep (.keep (.keep (.keep (.keep (.keep (.keep (.keep (.keep (.keep (.keep Wk.nil)))))))))))) ?_ ?_
    · intro Hs1 Ab x_9 s8 n σ Hs H N Nx hN hm ok
      have hrt := hrt.up Ab
      have ok : OkS _ [some (.sh (enc (v_stock : Stk))), some (.sh (enc (v_text : Str))), some (.sh (enc (v_words1 : (List Str)))), some (.sh (enc (v_many3 : (List Int)))), some (.sh (enc (v_letters4 : (List Str)))), some (.sh (enc (s8.1 : Int))), some (.sh (enc (s8.2.1 : (List Str)))), some (.sh (enc (s8.2.2 : Int))), some (.sh (enc (x_9 : Str))), none, none, none] n σ Hs H := ok
      refine sq ?_
      refine go_aug2 (g := fun a b => a - b) ok rfl ev_int hm ?_
      intro v_behind10 n σ Hs H hm ok
      have ok : OkS _ [some (.sh (enc (v_stock : Stk))), some (.sh (enc (v_text : Str))), some (.sh (enc (v_words1 : (List Str)))), some (.sh (enc (v_many3 : (List Int)))), some (.sh (enc (v_letters4 : (List Str)))), some (.sh (enc (s8.1 : Int))), some (.sh (enc (s8.2.1 : (List Str)))), some (.sh (enc (v_behind10 : Int))), some (.sh (enc (x_9 : Str))), none, none, none] n σ Hs H := ok
      refine nx_go ?_
      refine sq ?_
      refine go_set ok (ev_new (en_comp (es_list (ev_var rfl)) eg_name (by decide) (noOwnB rfl) (fun c_letter11 => (et_test (ev_ltS (ev_var rfl) (ev_var rfl)))) (fun c_letter11 => (ev_new (en_callP (m := (fun x : (List Str) × (List Str) × Str × Unit => m_ends_behind x.1 x.2.1 x.2.2.1)) (ea_cons (ev_var rfl) (ea_cons (ev_var rfl) (ea_cons (ev_var rfl) ea_nil)))))) (fun _ => rfl))) hm ?_
      intro v_less12 n σ Hs H hm ok
      have ok : OkS _ [some (.sh (enc (v_stock : Stk))), some (.sh (enc (v_text : Str))), some (.sh (enc (v_words1 : (List Str)))), some (.sh (enc (v_many3 : (List Int)))), some (.sh (enc (v_letters4 : (List Str)))), some (.sh (enc (s8.1 : Int))), some (.sh (enc (s8.2.1 : (List Str)))), some (.sh (enc (v_behind10 : Int))), some (.sh (enc (x_9 : Str))), some (.sh (enc (v_less12 : (List (List Str))))), none, none] n σ Hs H := ok
      refine nx_go ?_
      refine sq ?_
      refine go_aug2 (g := fun a b => a + b) ok rfl (ev_sum (el_en (en_comp (es_list (ev_var rfl)) eg_name (by decide) (noOwnB rfl) (fun c_told14 => et_yes) (fun c_told14 => (ev_callP (m := (fun x : (List Int) × (List Str) × Int × Unit => m_count_completed x.1 x.2.1 x.2.2.1)) (ea_cons (ev_var rfl) (ea_cons (ev_var rfl) (ea_cons (ev_var rfl) ea_nil))))) (fun _ => rfl)))) hm ?_
      intro v_index15 n σ Hs H hm ok
      have ok : OkS _ [some (.sh (enc (v_stock : Stk))), some (.sh (enc (v_text : Str))), some (.sh (enc (v_words1 : (List Str)))), some (.sh (enc (v_many3 : (List Int)))), some (.sh (enc (v_letters4 : (List Str)))), some (.sh (enc (v_index15 : Int))), some (.sh (enc (s8.2.1 : (List Str)))), some (.sh (enc (v_behind10 : Int))), some (.sh (enc (x_9 : Str))), some (.sh (enc (v_less12 : (List (List Str))))), none, none] n σ Hs H := ok
      refine nx_go ?_
      refine go_set ok (ev_new (en_callP (m := (fun x : (List Str) × (List Str) × Str × Unit => m_ends_behind x.1 x.2.1 x.2.2.1)) (ea_cons (ev_var rfl) (ea_cons (ev_var rfl) (ea_cons (ev_var rfl) ea_nil))))) hm ?_
      intro v_ends16 n σ Hs H hm ok
      have ok : OkS _ [some (.sh (enc (v_stock : Stk))), some (.sh (enc (v_text : Str))), some (.sh (enc (v_words1 : (List Str)))), some (.sh (enc (v_many3 : (List Int)))), some (.sh (enc (v_letters4 : (List Str)))), some (.sh (enc (v_index15 : Int))), some (.sh (enc (v_ends16 : (List Str)))), some (.sh (enc (v_behind10 : Int))), some (.sh (enc (x_9 : Str))), some (.sh (enc (v_less12 : (List (List Str))))), none, none] n σ Hs H := ok
      exact hN _ _ _ _ _ hm (ok.wk (.keep (.keep (.keep (.keep (.keep (.keep (.keep (.keep (.drop (.drop (.keep (.keep Wk.nil)))))))))))))
    · intro s8 n σ Hs H hm ok
      have ok : OkS _ [some (.sh (enc (v_stock : Stk))), some (.sh (enc (v_text : Str))), some (.sh (enc (v_words1 : (List Str)))), some (.sh (enc (v_many3 : (List Int)))), some (.sh (enc (v_letters4 : (List Str)))), some (.sh (enc (s8.1 : Int))), some (.sh (enc (s8.2.1 : (List Str)))), some (.sh (enc (s8.2.2 : Int))), none, none, none, none] n σ Hs H := ok
      refine nx_go ?_
      exact go_ret ok (ev_var rfl) hm hrt

theorem scsWord : FnScope ["pool", "widest", "signs", "turn"] ["pool", "widest", "signs"] (defScope sWord) := ⟨rfl, rfl, rfl, by decide +kernel, rfl, by decide +kernel, by decide +kernel⟩
theorem okWord {f : Addr} {fd : FuncData} (F : Fun K "_law_word" "_law_word" sWord f fd) (B : BuA mg)
    {fX_law_draw : Addr} {fdX_law_draw : FuncData} (X_law_draw : CalG P w K mg base 1 "_law_draw" ["pool", "span"] (spL ⟨C, K, P, w⟩ (fun x : Int × Unit => m_law_draw x.1)) fX_law_draw fdX_law_draw) :
    FnG P w K mg base CX0 2 f fd ["pool", "widest", "signs"] (spL ⟨C, K, P, w⟩ (fun x : Int × Str × Unit => m_law_word x.1 x.2.1)) := by
  refine okL F scsWord (by decide) (fun _ => rfl) (fun cdv A outer s H Hs p vs Q E x n Rt hr hG hm ok hrt => ?_)
  obtain ⟨v_widest, v_signs, u0⟩ := x
  replace hm : m_law_word v_widest v_signs n Rt := hm
  unfold m_law_word at hm
  refine ⟨_, (pss_one (ps_ret (peK_join (K := K) rfl pe_str (pe_lc (own := [("turn", 3)]) (g := gName 3) (tt := tYes) rfl scsWord.nd (pi_range1 (by rfl) B.range (pa_cons (pe_op op_add pe_int (pe_callG X_law_draw.G (hr.mono (by decide)) hG (by rfl) X_law_draw.g X_law_draw.k X_law_draw.b pass0 (pa_cons (pv 0) (pa_cons (pv 1) pa_nil)))) pa_nil)) (blkOk_by (N := ["pool", "widest", "signs", "turn"]) (sc := defScope sWord) (by decide +kernel)) (fun _ _ _ _ _ => (pg_name (i := 3) scsWord.nd rfl (Or.inl rfl))) (fun _ _ _ _ _ => pts_nil) (fun _ _ _ _ _ => (pe_ix ix_str (pv 2) (pe_callG X_law_draw.G (hr.mono (by decide)) hG (by rfl) X_law_draw.g X_law_draw.k X_law_draw.b pass0 (pa_cons (pv 0) (pa_cons (pe_callB call_len_str (by rfl) B.len PySem.boot_len (pa_cons (pv 2) pa_nil)) pa_nil))) (fun _ _ => rfl))))))), ?_⟩
  have ok : OkS _ [some .pl, some (.sh (enc (v_widest : Int))), some (.sh (enc (v_signs : Str))), none] n _ Hs H := ok
  exact go_ret ok (ev_join ev_str (el_en (en_comp (es_range1 (ev_add ev_int (ev_callL (m := (fun x : Int × Unit => m_law_draw x.1)) rfl (ea_cons (ev_var rfl) ea_nil)))) eg_name (by decide) (noOwnB rfl) (fun c_turn1 => et_yes) (fun c_turn1 => (ev_ixS (ev_var rfl) (ev_callL (m := (fun x : Int × Unit => m_law_draw x.1)) rfl (ea_cons (ev_lenS (ev_var rfl)) ea_nil)))) (fun _ => rfl)))) hm hrt

theorem scsLot : FnScope ["pool", "many", "widest", "signs", "found", "turn", "fresh", "way", "left", "right", "cut"] ["pool", "many", "widest"] (defScope sLot) := ⟨rfl, rfl, rfl, by decide +kernel, rfl, by decide +kernel, by decide +kernel⟩
theorem okLot {f : Addr} {fd : FuncData} (F : Fun K "_law_lot" "_law_lot" sLot f fd) (B : BuA mg)
    {fX_law_draw : Addr} {fdX_law_draw : FuncData} (X_law_draw : CalG P w K mg base 1 "_law_draw" ["pool", "span"] (spL ⟨C, K, P, w⟩ (fun x : Int × Unit => m_law_draw x.1)) fX_law_draw fdX_law_draw)
    {fX_law_word : Addr} {fdX_law_word : FuncData} (X_law_word : CalG P w K mg base 2 "_law_word" ["pool", "widest", "signs"] (spL ⟨C, K, P, w⟩ (fun x : Int × Str × Unit => m_law_word x.1 x.2.1)) fX_law_word fdX_law_word) :
    FnG P w K mg base CX0 3 f fd ["pool", "many", "widest"] (spLN ⟨C, K, P, w⟩ (fun x : Int × Int × Unit => m_law_lot x.1 x.2.1)) := by
  refine okLN F scsLot (by decide) (fun _ => rfl) (fun cdv A outer s H Hs p vs Q E x n Rt hr hG hm ok hrt => ?_)
  obtain ⟨v_many, v_widest, u0⟩ := x
  replace hm : m_law_lot v_many v_widest n Rt := hm
  unfold m_law_lot at hm
  refine ⟨_, (pss_cons (ps_set (i := 3) scsLot.nd rfl (Or.inl rfl) (pe_ix (ixK_list (K := K) rfl) (pe_lst (pa_cons pe_str (pa_cons pe_str (pa_cons pe_str (pa_cons pe_str (pa_cons pe_str pa_nil)))))) (pe_callG X_law_draw.G (hr.mono (by decide)) hG (by rfl) X_law_draw.g X_law_draw.k X_law_draw.b pass0 (pa_cons (pv 0) (pa_cons pe_int pa_nil))) (fun _ _ => rfl)))
      (pss_cons (ps_set (i := 4) scsLot.nd rfl (Or.inl rfl) (pe_lst pa_nil))
      (pss_cons (ps_for PassesOwn.never rfl (pi_range1 (by rfl) B.range (pa_cons (pe_op op_add pe_int (pe_callG X_law_draw.G (hr.mono (by decide)) hG (by rfl) X_law_draw.g X_law_draw.k X_law_draw.b pass0 (pa_cons (pv 0) (pa_cons (pv 1) pa_nil)))) pa_nil)) (pg_name (i := 5) scsLot.nd rfl (Or.inl rfl)) (pss_cons (ps_par (i := 6) (j := 7) (by rfl) scsLot.nd rfl rfl (by decide) rfl rfl (pa_cons (pe_callG X_law_word.G (hr.mono (by decide)) hG (by rfl) X_law_word.g X_law_word.k X_law_word.b pass0 (pa_cons (pv 0) (pa_cons (pv 2) (pa_cons (pv 3) pa_nil)))) (pa_cons (pe_callG X_law_draw.G (hr.mono (by decide)) hG (by rfl) X_law_draw.g X_law_draw.k X_law_draw.b pass0 (pa_cons (pv 0) (pa_cons pe_int pa_nil))) pa_nil)) (by rfl))
      (pss_cons (ps_if (PW.pt (pw_and (pt_cmpR (opK_neD (K := K) rfl hr.units) (pv 4) (pe_lst pa_nil) (nomark _)) (pw_and1 (pt_cmpR op_lt (pv 7) pe_int (nomark _))))) (pss_cons (ps_par (i := 8) (j := 9) (by rfl) scsLot.nd rfl rfl (by decide) rfl rfl (pa_cons (pe_ix (ixK_list (K := K) rfl) (pv 4) (pe_callG X_law_draw.G (hr.mono (by decide)) hG (by rfl) X_law_draw.g X_law_draw.k X_law_draw.b pass0 (pa_cons (pv 0) (pa_cons (pe_callB (callK_len (K := K) rfl) (by rfl) B.len PySem.boot_len (pa_cons (pv 4) pa_nil)) pa_nil))) (fun _ _ => rfl)) (pa_cons (pe_ix (ixK_list (K := K) rfl) (pv 4) (pe_callG X_law_draw.G (hr.mono (by decide)) hG (by rfl) X_law_draw.g X_law_draw.k X_law_draw.b pass0 (pa_cons (pv 0) (pa_cons (pe_callB (callK_len (K := K) rfl) (by rfl) B.len PySem.boot_len (pa_cons (pv 4) pa_nil)) pa_nil))) (fun _ _ => rfl)) pa_nil)) (by rfl))
      (pss_cons (ps_set (i := 10) scsLot.nd rfl (Or.inl rfl) (pe_op op_add pe_int (pe_callG X_law_draw.G (hr.mono (by decide)) hG (by rfl) X_law_draw.g X_law_draw.k X_law_draw.b pass0 (pa_cons (pv 0) (pa_cons (pe_callB call_len_str (by rfl) B.len PySem.boot_len (pa_cons (pv 8) pa_nil)) pa_nil)))))
      (pss_one (ps_set (i := 6) scsLot.nd rfl (Or.inl rfl) (pe_ix (ixK_list (K := K) rfl) (pe_lst (pa_cons (pe_op op_add_str (pv 8) (pv 9)) (pa_cons (pe_slice sl_str (pv 8) po_none (po_some (pv 10))) (pa_cons (pe_op op_add_str (pe_slice sl_str (pv 8) (po_some (pe_op op_sub (pv 10) pe_int)) po_none) (pe_slice sl_str (pv 9) po_none (po_some pe_int))) pa_nil)))) (pv 7) (fun _ _ => rfl)))))) pss_nil)
      (pss_one (ps_if (PW.pt (pw_and (pt_cmpR op_le (pe_callB call_len_str (by rfl) B.len PySem.boot_len (pa_cons (pv 6) pa_nil)) (pv 2) (nomark _)) (pw_and1 (pt_cmpR (opK_notIn (K := K) rfl) (pv 6) (pv 4) rfl)))) (pss_one (ps_expr (peK_bm (K := K) rfl PySem.F.plainAttrs_list PySem.F.slot_list_append PySem.F.type_list_append mt_append (pv 4) (pa_cons (pv 6) pa_nil)))) pss_nil)))))
      (pss_one (ps_ret (pv 4)))))), ?_⟩
  have ok : OkS _ [some .pl, some (.sh (enc (v_many : Int))), some (.sh (enc (v_widest : Int))), none, none, none, none, none, none, none, none] n _ Hs H := ok
  refine sq ?_
  refine go_set ok (ev_ixL (el_en (en_lst (ei_cons ev_str (ei_cons ev_str (ei_cons ev_str (ei_cons ev_str (ei_cons ev_str ei_nil))))) (by decide))) (ev_callL (m := (fun x : Int × Unit => m_law_draw x.1)) rfl (ea_cons ev_int ea_nil))) hm ?_
  intro v_signs1 n σ Hs H hm ok
  have ok : OkS _ [some .pl, some (.sh (enc (v_many : Int))), some (.sh (enc (v_widest : Int))), some (.sh (enc (v_signs1 : Str))), none, none, none, none, none, none, none] n σ Hs H := ok
  refine nx_go ?_
  refine sq ?_
  refine go_new ok (en_lst ei_nil (by decide)) hm ?_
  intro v_found2 n σ Hs H hm ok
  have ok : OkS _ [some .pl, some (.sh (enc (v_many : Int))), some (.sh (enc (v_widest : Int))), some (.sh (enc (v_signs1 : Str))), some (.ow ((v_found2 : (List Str)).map enc)), none, none, none, none, none, none] n σ Hs H := ok
  refine nx_go ?_
  refine sq ?_
  refine go_for (envOf := fun s3 : (List Str) => [some .pl, some (.sh (enc (v_many : Int))), some (.sh (enc (v_widest : Int))), some (.sh (enc (v_signs1 : Str))), some (.ow ((s3 : (List Str)).map enc)), none, none, none, none, none, none]) ok (es_range1 (ev_add ev_int (ev_callL (m := (fun x : Int × Unit => m_law_draw x.1)) rfl (ea_cons (ev_var rfl) ea_nil)))) (fun _ => eg_name) hm (fun _ _ h => h) (.keep (.keep (.keep (.keep (.keep (.keep (.keep (.keep (.keep (.keep (.keep Wk.nil))))))))))) ?_ ?_
  · intro Hs1 Ab x_4 s3 n σ Hs H N Nx hN hm ok
    have hrt := hrt.up Ab
    have ok : OkS _ [some .pl, some (.sh (enc (v_many : Int))), some (.sh (enc (v_widest : Int))), some (.sh (enc (v_signs1 : Str))), some (.ow ((s3 : (List Str)).map enc)), some (.sh (enc (x_4 : Int))), none, none, none, none, none] n σ Hs H := ok
    refine sq ?_
    refine go_par (by decide) ok (ev_callL (m := (fun x : Int × Str × Unit => m_law_word x.1 x.2.1)) rfl (ea_cons (ev_var rfl) (ea_cons (ev_var rfl) ea_nil))) (ev_callL (m := (fun x : Int × Unit => m_law_draw x.1)) rfl (ea_cons ev_int ea_nil)) hm (fun _ _ h => h) ?_
    intro v_fresh5 v_way6 n σ Hs H hm ok
    have ok : OkS _ [some .pl, some (.sh (enc (v_many : Int))), some (.sh (enc (v_widest : Int))), some (.sh (enc (v_signs1 : Str))), some (.ow ((s3 : (List Str)).map enc)), some (.sh (enc (x_4 : Int))), some (.sh (enc (v_fresh5 : Str))), some (.sh (enc (v_way6 : Int))), none, none, none] n σ Hs H := ok
    refine nx_go ?_
    refine go_join (envOf := fun s12 : Str => [some .pl, some (.sh (enc (v_many : Int))), some (.sh (enc (v_widest : Int))), some (.sh (enc (v_signs1 : Str))), some (.ow ((s3 : (List Str)).map enc)), some (.sh (enc (x_4 : Int))), some (.sh (enc (s12 : Str))), some (.sh (enc (v_way6 : Int))), none, none, none]) ok hm ?_ ?_
    · intro N hN hm
      refine go_if ok (et_and (et_test (ev_neD (ed_own rfl) (ed_ev (ev_new (en_lst ei_nil (by decide)))))) (et_test (ev_lt (ev_var rfl) ev_int))) hm ?_ ?_
      · intro n Hs H hm ok
        have hm := hm.1 rfl
        refine sq ?_
        refine go_par (by decide) ok (ev_ixL (el_own rfl) (ev_callL (m := (fun x : Int × Unit => m_law_draw x.1)) rfl (ea_cons (ev_lenL (el_own rfl)) ea_nil))) (ev_ixL (el_own rfl) (ev_callL (m := (fun x : Int × Unit => m_law_draw x.1)) rfl (ea_cons (ev_lenL (el_own rfl)) ea_nil))) hm (fun _ _ h => h) ?_
        intro v_left13 v_right14 n σ Hs H hm ok
        have ok : OkS _ [some .pl, some (.sh (enc (v_many : Int))), some (.sh (enc (v_widest : Int))), some (.sh (enc (v_signs1 : Str))), some (.ow ((s3 : (List Str)).map enc)), some (.sh (enc (x_4 : Int))), some (.sh (enc (v_fresh5 : Str))), some (.sh (enc (v_way6 : Int))), some (.sh (enc (v_left13 : Str))), some (.sh (enc (v_right14 : Str))), none] n σ Hs H := ok
        refine nx_go ?_
        refine sq ?_
        refine go_set ok (ev_add ev_int (ev_callL (m := (fun x : Int × Unit => m_law_draw x.1)) rfl (ea_cons (ev_lenS (ev_var rfl)) ea_nil))) hm ?_
        intro v_cut15 n σ Hs H hm ok
        have ok : OkS _ [some .pl, some (.sh (enc (v_many : Int))), some (.sh (enc (v_widest : Int))), some (.sh (enc (v_signs1 : Str))), some (.ow ((s3 : (List Str)).map enc)), some (.sh (enc (x_4 : Int))), some (.sh (enc (v_fresh5 : Str))), some (.sh (enc (v_way6 : Int))), some (.sh (enc (v_left13 : Str))), some (.sh (enc (v_right14 : Str))), some (.sh (enc (v_cut15 : Int)))] n σ Hs H := ok
        refine nx_go ?_
        refine go_set ok (ev_ixL (el_en (en_lst (ei_cons (ev_catS (ev_var rfl) (ev_var rfl)) (ei_cons (ev_slS (ev_var rfl) eo_none (eo_some (ev_var rfl))) (ei_cons (ev_catS (ev_slS (ev_var rfl) (eo_some (ev_sub (ev_var rfl) ev_int)) eo_none) (ev_slS (ev_var rfl) eo_none (eo_some ev_int))) ei_nil))) (by decide))) (ev_var rfl)) hm ?_
        intro v_fresh16 n σ Hs H hm ok
        have ok : OkS _ [some .pl, some (.sh (enc (v_many : Int))), some (.sh (enc (v_widest : Int))), some (.sh (enc (v_signs1 : Str))), some (.ow ((s3 : (List Str)).map enc)), some (.sh (enc (x_4 : Int))), some (.sh (enc (v_fresh16 : Str))), some (.sh (enc (v_way6 : Int))), some (.sh (enc (v_left13 : Str))), some (.sh (enc (v_right14 : Str))), some (.sh (enc (v_cut15 : Int)))] n σ Hs H := ok
        exact hN _ _ _ _ _ hm (ok.wk (.keep (.keep (.keep (.keep (.keep (.keep (.keep (.keep (.drop (.drop (.drop Wk.nil))))))))))))
      · intro n Hs H hm ok
        have hm := hm.2 rfl
        refine go_next ?_
        exact hN _ _ _ _ _ hm (ok.wk (.keep (.keep (.keep (.keep (.keep (.keep (.keep (.keep (.keep (.keep (.keep Wk.nil))))))))))))
    · intro s12 n σ Hs H hm ok
      have ok : OkS _ [some .pl, some (.sh (enc (v_many : Int))), some (.sh (enc (v_widest : Int))), some (.sh (enc (v_signs1 : Str))), some (.ow ((s3 : (List Str)).map enc)), some (.sh (enc (x_4 : Int))), some (.sh (enc (s12 : Str))), some (.sh (enc (v_way6 : Int))), none, none, none] n σ Hs H := ok
      refine go_if ok (et_and (et_test (ev_le (ev_lenS (ev_var rfl)) (ev_var rfl))) (et_test (ev_inS (ev_var rfl) (el_own rfl)))) hm ?_ ?_
      · intro n Hs H hm ok
        have hm := hm.1 rfl
        refine go_append ok rfl (ev_var rfl) hm ?_
        intro a_18 n σ Hs H hm ok
        have ok : OkS _ [some .pl, some (.sh (enc (v_many : Int))), some (.sh (enc (v_widest : Int))), some (.sh (enc (v_signs1 : Str))), some (.ow (((s3 ++ [a_18]) : (List Str)).map enc)), some (.sh (enc (x_4 : Int))), some (.sh (enc (s12 : Str))), some (.sh (enc (v_way6 : Int))), none, none, none] n σ Hs H := ok
        exact hN _ _ _ _ _ hm (ok.wk (.keep (.keep (.keep (.keep (.keep (.drop (.drop (.drop (.keep (.keep (.keep Wk.nil))))))))))))
      · intro n Hs H hm ok
        have hm := hm.2 rfl
        refine go_next ?_
        exact hN _ _ _ _ _ hm (ok.wk (.keep (.keep (.keep (.keep (.keep (.drop (.drop (.drop (.keep (.keep (.keep Wk.nil))))))))))))
  · intro s3 n σ Hs H hm ok
    have ok : OkS _ [some .pl, some (.sh (enc (v_many : Int))), some (.sh (enc (v_widest : Int))), some (.sh (enc (v_signs1 : Str))), some (.ow ((s3 : (List Str)).map enc)), none, none, none, none, none, none] n σ Hs H := ok
    refine nx_go ?_
    exact go_retO (i := 4) ok rfl hm hrt

theorem scsKnown : FnScope ["pool", "some"] ["pool"] (defScope sKnown) := ⟨rfl, rfl, rfl, by decide +kernel, rfl, by decide +kernel, by decide +kernel⟩
theorem okKnown {f : Addr} {fd : FuncData} (F : Fun K "_law_known" "_law_known" sKnown f fd) (B : BuA mg)
    {fX_law_draw : Addr} {fdX_law_draw : FuncData} (X_law_draw : CalG P w K mg base 1 "_law_draw" ["pool", "span"] (spL ⟨C, K, P, w⟩ (fun x : Int × Unit => m_law_draw x.1)) fX_law_draw fdX_law_draw) :
    FnG P w K mg base CX0 2 f fd ["pool"] (spLN ⟨C, K, P, w⟩ (fun x : Unit => m_law_known)) := by
  refine okLN F scsKnown (by decide) (fun _ => rfl) (fun cdv A outer s H Hs p vs Q E x n Rt hr hG hm ok hrt => ?_)
  obtain ⟨u0⟩ := x
  replace hm : m_law_known n Rt := hm
  unfold m_law_known at hm
  refine ⟨_, (pss_cons (ps_set (i := 1) scsKnown.nd rfl (Or.inl rfl) (pe_lst (pa_cons pe_str (pa_cons pe_str (pa_cons pe_str (pa_cons pe_str (pa_cons pe_str (pa_cons pe_str (pa_cons pe_str (pa_cons pe_str (pa_cons pe_str pa_nil)))))))))))
      (pss_cons (ps_set (i := 1) scsKnown.nd rfl (Or.inl rfl) (pe_op op_cat (pv 1) (pe_lst (pa_cons pe_str (pa_cons pe_str (pa_cons pe_str (pa_cons pe_str (pa_cons pe_str (pa_cons pe_str pa_nil)))))))))
      (pss_cons (ps_set (i := 1) scsKnown.nd rfl (Or.inl rfl) (pe_op op_cat (pv 1) (pe_lst (pa_cons pe_str (pa_cons pe_str pa_nil)))))
      (pss_one (ps_ret (pe_split (pe_ix (ixK_list (K := K) rfl) (pv 1) (pe_callG X_law_draw.G (hr.mono (by decide)) hG (by rfl) X_law_draw.g X_law_draw.k X_law_draw.b pass0 (pa_cons (pv 0) (pa_cons pe_int pa_nil))) (fun _ _ => rfl)) pe_str)))))), ?_⟩
  have ok : OkS _ [some .pl, none] n _ Hs H := ok
  refine sq ?_
  refine go_set ok (ev_new (en_lst (ei_cons ev_str (ei_cons ev_str (ei_cons ev_str (ei_cons ev_str (ei_cons ev_str (ei_cons ev_str (ei_cons ev_str (ei_cons ev_str (ei_cons ev_str ei_nil))))))))) (by decide))) hm ?_
  intro v_some1 n σ Hs H hm ok
  have ok : OkS _ [some .pl, some (.sh (enc (v_some1 : (List Str))))] n σ Hs H := ok
  refine nx_go ?_
  refine sq ?_
  refine go_set ok (ev_new (en_cat (el_ev (ev_var rfl)) (el_en (en_lst (ei_cons ev_str (ei_cons ev_str (ei_cons ev_str (ei_cons ev_str (ei_cons ev_str (ei_cons ev_str ei_nil)))))) (by decide))))) hm ?_
  intro v_some2 n σ Hs H hm ok
  have ok : OkS _ [some .pl, some (.sh (enc (v_some2 : (List Str))))] n σ Hs H := ok
  refine nx_go ?_
  refine sq ?_
  refine go_set ok (ev_new (en_cat (el_ev (ev_var rfl)) (el_en (en_lst (ei_cons ev_str (ei_cons ev_str ei_nil)) (by decide))))) hm ?_
  intro v_some3 n σ Hs H hm ok
  have ok : OkS _ [some .pl, some (.sh (enc (v_some3 : (List Str))))] n σ Hs H := ok
  refine nx_go ?_
  exact go_retN ok (en_split (ev_ixL (el_ev (ev_var rfl)) (ev_callL (m := (fun x : Int × Unit => m_law_draw x.1)) rfl (ea_cons ev_int ea_nil))) ev_str) hm hrt

theorem scslRests : FnScope ["lot", "waiting", "found", "is_alike", "short", "longer", "rest", "step"] ["lot"] (defScope slRests) := ⟨rfl, rfl, rfl, by decide +kernel, rfl, by decide +kernel, by decide +kernel⟩
theorem oklRests {f : Addr} {fd : FuncData} (F : Fun K "_law_rests" "_law_rests" slRests f fd) (B : BuA mg) :
    FnG P w K mg base CX0 1 f fd ["lot"] (spP ⟨C, K, P, w⟩ (fun x : (List Str) × Unit => m_law_rests x.1)) := by
  refine okP F scslRests (by decide) (fun _ => rfl) (fun cdv A outer s H Hs vs Q E x Rt hr hG hm ok hrt => ?_)
  obtain ⟨v_lot, u0⟩ := x
  replace hm : m_law_rests v_lot 0 Rt := hm
  unfold m_law_rests at hm
  refine ⟨_, (pss_cons (ps_par3 (i := 1) (j := 2) (l := 3) (by rfl) scslRests.nd rfl rfl rfl (by decide) (by decide) (by decide) rfl rfl rfl (pa_cons (pe_lst pa_nil) (pa_cons (pe_lst pa_nil) (pa_cons pe_bl pa_nil))) (by rfl))
      (pss_cons (ps_for PassesOwn.never rfl (piK_list (K := K) rfl (pv 0)) (pg_name (i := 4) scslRests.nd rfl (Or.inl rfl)) (pss_one (ps_for PassesOwn.never rfl (piK_list (K := K) rfl (pv 0)) (pg_name (i := 5) scslRests.nd rfl (Or.inl rfl)) (pss_one (ps_if (PW.pt (pw_and (pt_cmpR op_ne (pv 5) (pv 4) (nomark _)) (pw_and1 (pt_cmpR op_eq (pe_slice sl_str (pv 5) po_none (po_some (pe_callB call_len_str (by rfl) B.len PySem.boot_len (pa_cons (pv 4) pa_nil)))) (pv 4) (nomark _))))) (pss_one (ps_expr (peK_bm (K := K) rfl PySem.F.plainAttrs_list PySem.F.slot_list_append PySem.F.type_list_append mt_append (pv 1) (pa_cons (pe_slice sl_str (pv 5) (po_some (pe_callB call_len_str (by rfl) B.len PySem.boot_len (pa_cons (pv 4) pa_nil))) po_none) pa_nil)))) pss_nil)))))
      (pss_cons (ps_while PassesOwn.never (pt_cmpR (opK_neD (K := K) rfl hr.units) (pv 1) (pe_lst pa_nil) (nomark _)) (pss_cons (ps_set (i := 6) scslRests.nd rfl (Or.inl rfl) (peK_bm0 (K := K) rfl PySem.F.plainAttrs_list PySem.F.slot_list_pop PySem.F.type_list_pop mt_pop (pv 1)))
      (pss_one (ps_if (pt_cmpR (opK_notIn (K := K) rfl) (pv 6) (pv 2) rfl) (pss_cons (ps_expr (peK_bm (K := K) rfl PySem.F.plainAttrs_list PySem.F.slot_list_append PySem.F.type_list_append mt_append (pv 2) (pa_cons (pv 6) pa_nil)))
      (pss_one (ps_for PassesOwn.never rfl (piK_list (K := K) rfl (pv 0)) (pg_name (i := 7) scslRests.nd rfl (Or.inl rfl)) (pss_one (ps_if (pt_cmpR op_eq (pv 7) (pv 6) (nomark _)) (pss_one (ps_set (i := 3) scslRests.nd rfl (Or.inl rfl) pe_bl)) (pss_one (ps_if (pt_cmpR op_eq (pe_slice sl_str (pv 6) po_none (po_some (pe_callB call_len_str (by rfl) B.len PySem.boot_len (pa_cons (pv 7) pa_nil)))) (pv 7) (nomark _)) (pss_one (ps_expr (peK_bm (K := K) rfl PySem.F.plainAttrs_list PySem.F.slot_list_append PySem.F.type_list_append mt_append (pv 1) (pa_cons (pe_slice sl_str (pv 6) (po_some (pe_callB call_len_str (by rfl) B.len PySem.boot_len (pa_cons (pv 7) pa_nil))) po_none) pa_nil)))) (pss_one (ps_if (pt_cmpR op_eq (pe_slice sl_str (pv 7) po_none (po_some (pe_callB call_len_str (by rfl) B.len PySem.boot_len (pa_cons (pv 6) pa_nil)))) (pv 6) (nomark _)) (pss_one (ps_expr (peK_bm (K := K) rfl PySem.F.plainAttrs_list PySem.F.slot_list_append PySem.F.type_list_append mt_append (pv 1) (pa_cons (pe_slice sl_str (pv 7) (po_some (pe_callB call_len_str (by rfl) B.len PySem.boot_len (pa_cons (pv 6) pa_nil))) po_none) pa_nil)))) pss_nil))))))))) pss_nil))))
      (pss_one (ps_ret (pe_tup (pa_cons (pv 2) (pa_cons (pv 3) pa_nil)))))))), ?_⟩
  have ok : OkS _ [some (.sh (enc (v_lot : (List Str)))), none, none, none, none, none, none, none] 0 _ Hs H := ok
  refine sq ?_
  refine go_par3 (by decide) ok (en_lst ei_nil (by decide)) (en_lst ei_nil (by decide)) ev_bl hm (fun _ _ h => h) (fun _ _ _ h => h) ?_
  intro v_waiting1 v_found2 v_is_alike3 n σ Hs H hm ok
  have ok : OkS _ [some (.sh (enc (v_lot : (List Str)))), some (.ow ((v_waiting1 : (List Str)).map enc)), some (.ow ((v_found2 : (List Str)).map enc)), some (.sh (enc (v_is_alike3 : Bool))), none, none, none, none] n σ Hs H := ok
  refine nx_go ?_
  refine sq ?_
  refine go_for (envOf := fun s4 : (List Str) => [some (.sh (enc (v_lot : (List Str)))), some (.ow ((s4 : (List Str)).map enc)), some (.ow ((v_found2 : (List Str)).map enc)), some (.sh (enc (v_is_alike3 : Bool))), none, none, none, none]) ok (es_list (ev_var rfl)) (fun _ => eg_name) hm (fun _ _ h => h) (.keep (.keep (.keep (.keep (.keep (.keep (.keep (.keep Wk.nil)))))))) ?_ ?_
  · intro Hs1 Ab x_5 s4 n σ Hs H N Nx hN hm ok
    have hrt := hrt.up Ab
    have ok : OkS _ [some (.sh (enc (v_lot : (List Str)))), some (.ow ((s4 : (List Str)).map enc)), some (.ow ((v_found2 : (List Str)).map enc)), some (.sh (enc (v_is_alike3 : Bool))), some (.sh (enc (x_5 : Str))), none, none, none] n σ Hs H := ok
    refine go_for (envOf := fun s6 : (List Str) => [some (.sh (enc (v_lot : (List Str)))), some (.ow ((s6 : (List Str)).map enc)), some (.ow ((v_found2 : (List Str)).map enc)), some (.sh (enc (v_is_alike3 : Bool))), some (.sh (enc (x_5 : Str))), none, none, none]) ok (es_list (ev_var rfl)) (fun _ => eg_name) hm (fun _ _ h => h) (.keep (.keep (.keep (.keep (.keep (.keep (.keep (.keep Wk.nil)))))))) ?_ ?_
    · intro Hs1 Ab x_7 s6 n σ Hs H N Nx hN hm ok
      have hrt := hrt.up Ab
      have ok : OkS _ [some (.sh (enc (v_lot : (List Str)))), some (.ow ((s6 : (List Str)).map enc)), some (.ow ((v_found2 : (List Str)).map enc)), some (.sh (enc (v_is_alike3 : Bool))), some (.sh (enc (x_5 : Str))), some (.sh (enc (x_7 : Str))), none, none] n σ Hs H := ok
      refine go_if ok (et_and (et_test (ev_neS (ev_var rfl) (ev_var rfl))) (et_test (ev_eqS (ev_slS (ev_var rfl) eo_none (eo_some (ev_lenS (ev_var rfl)))) (ev_var rfl)))) hm ?_ ?_
      · intro n Hs H hm ok
        have hm := hm.1 rfl
        refine go_append ok rfl (ev_slS (ev_var rfl) (eo_some (ev_lenS (ev_var rfl))) eo_none) hm ?_
        intro a_9 n σ Hs H hm ok
        have ok : OkS _ [some (.sh (enc (v_lot : (List Str)))), some (.ow (((s6 ++ [a_9]) : (List Str)).map enc)), some (.ow ((v_found2 : (List Str)).map enc)), some (.sh (enc (v_is_alike3 : Bool))), some (.sh (enc (x_5 : Str))), some (.sh (enc (x_7 : Str))), none, none] n σ Hs H := ok
        exact hN _ _ _ _ _ hm (ok.wk (.keep (.keep (.keep (.keep (.keep (.drop (.keep (.keep Wk.nil)))))))))
      · intro n Hs H hm ok
        have hm := hm.2 rfl
        refine go_next ?_
        exact hN _ _ _ _ _ hm (ok.wk (.keep (.keep (.keep (.keep (.keep (.drop (.keep (.keep Wk.nil)))))))))
    · intro s6 n σ Hs H hm ok
      have ok : OkS _ [some (.sh (enc (v_lot : (List Str)))), some (.ow ((s6 : (List Str)).map enc)), some (.ow ((v_found2 : (List Str)).map enc)), some (.sh (enc (v_is_alike3 : Bool))), some (.sh (enc (x_5 : Str))), none, none, none] n σ Hs H := ok
      exact hN _ _ _ _ _ hm (ok.wk (.keep (.keep (.keep (.keep (.drop (.keep (.keep (.keep Wk.nil)))))))))
  · intro s4 n σ Hs H hm ok
    have ok : OkS _ [some (.sh (enc (v_lot : (List Str)))), some (.ow ((s4 : (List Str)).map enc)), some (.ow ((v_found2 : (List Str)).map enc)), some (.sh (enc (v_is_alike3 : Bool))), none, none, none, none] n σ Hs H := ok
    refine nx_go ?_
    refine sq ?_
    refine go_while (envOf := fun s11 : (List Str) × (List Str) × Bool => [some (.sh (enc (v_lot : (List Str)))), some (.ow ((s11.1 : (List Str)).map enc)), some (.ow ((s11.2.1 : (List Str)).map enc)), some (.sh (enc (s11.2.2 : Bool))), none, none, none, none]) ok (fun s11 => (et_test (ev_neD (ed_own rfl) (ed_ev (ev_new (en_lst ei_nil (by decide))))))) hm (.keep (.keep (.keep (.keep (.keep (.keep (.keep (.keep Wk.nil)))))))) ?_ ?_
    · intro s11 n σ Hs H N Nx hN hm ok
      have ok : OkS _ [some (.sh (enc (v_lot : (List Str)))), some (.ow ((s11.1 : (List Str)).map enc)), some (.ow ((s11.2.1 : (List Str)).map enc)), some (.sh (enc (s11.2.2 : Bool))), none, none, none, none] n σ Hs H := ok
      refine sq ?_
      refine go_popM ok rfl eg_name hm ?_
      intro p12 n σ Hs H hm ok
      have ok : OkS _ [some (.sh (enc (v_lot : (List Str)))), some (.ow (((s11.1).dropLast : (List Str)).map enc)), some (.ow ((s11.2.1 : (List Str)).map enc)), some (.sh (enc (s11.2.2 : Bool))), none, none, some (.sh (enc (p12 : Str))), none] n σ Hs H := ok
      refine nx_go ?_
      refine go_if ok (et_test (ev_inS (ev_var rfl) (el_own rfl))) hm ?_ ?_
      · intro n Hs H hm ok
        have hm := hm.1 rfl
        refine sq ?_
        refine go_append ok rfl (ev_var rfl) hm ?_
        intro a_15 n σ Hs H hm ok
        have ok : OkS _ [some (.sh (enc (v_lot : (List Str)))), some (.ow (((s11.1).dropLast : (List Str)).map enc)), some (.ow (((s11.2.1 ++ [a_15]) : (List Str)).map enc)), some (.sh (enc (s11.2.2 : Bool))), none, none, some (.sh (enc (p12 : Str))), none] n σ Hs H := ok
        refine nx_go ?_
        refine go_for (envOf := fun s16 : (List Str) × Bool => [some (.sh (enc (v_lot : (List Str)))), some (.ow ((s16.1 : (List Str)).map enc)), some (.ow (((s11.2.1 ++ [a_15]) : (List Str)).map enc)), some (.sh (enc (s16.2 : Bool))), none, none, some (.sh (enc (p12 : Str))), none]) ok (es_list (ev_var rfl)) (fun _ => eg_name) hm (fun _ _ h => h) (.keep (.keep (.keep (.keep (.keep (.keep (.keep (.keep Wk.nil)))))))) ?_ ?_
        · intro Hs1 Ab x_17 s16 n σ Hs H N Nx hN hm ok
          have hrt := hrt.up Ab
          have ok : OkS _ [some (.sh (enc (v_lot : (List Str)))), some (.ow ((s16.1 : (List Str)).map enc)), some (.ow (((s11.2.1 ++ [a_15]) : (List Str)).map enc)), some (.sh (enc (s16.2 : Bool))), none, none, some (.sh (enc (p12 : Str))), some (.sh (enc (x_17 : Str)))] n σ Hs H := ok
          refine go_if ok (et_test (ev_eqS (ev_var rfl) (ev_var rfl))) hm ?_ ?_
          · intro n Hs H hm ok
            have hm := hm.1 rfl
            refine go_set ok ev_bl hm ?_
            intro v_is_alike19 n σ Hs H hm ok
            have ok : OkS _ [some (.sh (enc (v_lot : (List Str)))), some (.ow ((s16.1 : (List Str)).map enc)), some (.ow (((s11.2.1 ++ [a_15]) : (List Str)).map enc)), some (.sh (enc (v_is_alike19 : Bool))), none, none, some (.sh (enc (p12 : Str))), some (.sh (enc (x_17 : Str)))] n σ Hs H := ok
            exact hN _ _ _ _ _ hm (ok.wk (.keep (.keep (.keep (.keep (.keep (.keep (.keep (.drop Wk.nil)))))))))
          · intro n Hs H hm ok
            have hm := hm.2 rfl
            refine go_if ok (et_test (ev_eqS (ev_slS (ev_var rfl) eo_none (eo_some (ev_lenS (ev_var rfl)))) (ev_var rfl))) hm ?_ ?_
            · intro n Hs H hm ok
              have hm := hm.1 rfl
              refine go_append ok rfl (ev_slS (ev_var rfl) (eo_some (ev_lenS (ev_var rfl))) eo_none) hm ?_
              intro a_21 n σ Hs H hm ok
              have ok : OkS _ [some (.sh (enc (v_lot : (List Str)))), some (.ow (((s16.1 ++ [a_21]) : (List Str)).map enc)), some (.ow (((s11.2.1 ++ [a_15]) : (List Str)).map enc)), some (.sh (enc (s16.2 : Bool))), none, none, some (.sh (enc (p12 : Str))), some (.sh (enc (x_17 : Str)))] n σ Hs H := ok
              exact hN _ _ _ _ _ hm (ok.wk (.keep (.keep (.keep (.keep (.keep (.keep (.keep (.drop Wk.nil)))))))))
            · intro n Hs H hm ok
              have hm := hm.2 rfl
              refine go_if ok (et_test (ev_eqS (ev_slS (ev_var rfl) eo_none (eo_some (ev_lenS (ev_var rfl)))) (ev_var rfl))) hm ?_ ?_
              · intro n Hs H hm ok
                have hm := hm.1 rfl
                refine go_append ok rfl (ev_slS (ev_var rfl) (eo_some (ev_lenS (ev_var rfl))) eo_none) hm ?_
                intro a_23 n σ Hs H hm ok
                have ok : OkS _ [some (.sh (enc (v_lot : (List Str)))), some (.ow (((s16.1 ++ [a_23]) : (List Str)).map enc)), some (.ow (((s11.2.1 ++ [a_15]) : (List Str)).map enc)), some (.sh (enc (s16.2 : Bool))), none, none, some (.sh (enc (p12 : Str))), some (.sh (enc (x_17 : Str)))] n σ Hs H := ok
                exact hN _ _ _ _ _ hm (ok.wk (.keep (.keep (.keep (.keep (.keep (.keep (.keep (.drop Wk.nil)))))))))
              · intro n Hs H hm ok
                have hm := hm.2 rfl
                refine go_next ?_
                exact hN _ _ _ _ _ hm (ok.wk (.keep (.keep (.keep (.keep (.keep (.keep (.keep (.drop Wk.nil)))))))))
        · intro s16 n σ Hs H hm ok
          have ok : OkS _ [some (.sh (enc (v_lot : (List Str)))), some (.ow ((s16.1 : (List Str)).map enc)), some (.ow (((s11.2.1 ++ [a_15]) : (List Str)).map enc)), some (.sh (enc (s16.2 : Bool))), none, none, some (.sh (enc (p12 : Str))), none] n σ Hs H := ok
          exact hN _ _ _ _ _ hm (ok.wk (.keep (.keep (.keep (.keep (.keep (.keep (.drop (.keep Wk.nil)))))))))
      · intro n Hs H hm ok
        have hm := hm.2 rfl
        refine go_next ?_
        exact hN _ _ _ _ _ hm (ok.wk (.keep (.keep (.keep (.keep (.keep (.keep (.drop (.keep Wk.nil)))))))))
    · intro s11 n σ Hs H hm ok
      have ok : OkS _ [some (.sh (enc (v_lot : (List Str)))), some (.ow ((s11.1 : (List Str)).map enc)), some (.ow ((s11.2.1 : (List Str)).map enc)), some (.sh (enc (s11.2.2 : Bool))), none, none, none, none] n σ Hs H := ok
      refine nx_go ?_
      refine go_freeze (i := 2) ok rfl ?_
      intro Hs ok
      have ok : OkS _ [some (.sh (enc (v_lot : (List Str)))), some (.ow ((s11.1 : (List Str)).map enc)), some (.sh (enc (s11.2.1 : (List Str)))), some (.sh (enc (s11.2.2 : Bool))), none, none, none, none] n σ Hs H := ok
      exact go_ret ok (ev_tup2 (ev_var rfl) (ev_var rfl)) hm hrt

theorem scslEased : FnScope ["lot", "found", "fresh"] ["lot"] (defScope slEased) := ⟨rfl, rfl, rfl, by decide +kernel, rfl, by decide +kernel, by decide +kernel⟩
theorem oklEased {f : Addr} {fd : FuncData} (F : Fun K "_law_eased" "_law_eased" slEased f fd) (B : BuA mg)
    {fX_law_rests : Addr} {fdX_law_rests : FuncData} (X_law_rests : CalG P w K mg base 1 "_law_rests" ["lot"] (spP ⟨C, K, P, w⟩ (fun x : (List Str) × Unit => m_law_rests x.1)) fX_law_rests fdX_law_rests) :
    FnG P w K mg base CX0 2 f fd ["lot"] (spPN ⟨C, K, P, w⟩ (fun x : (List Str) × Unit => m_law_eased x.1)) := by
  refine okPN F scslEased (by decide) (fun _ => rfl) (fun cdv A outer s H Hs vs Q E x Rt hr hG hm ok hrt => ?_)
  obtain ⟨v_lot, u0⟩ := x
  replace hm : m_law_eased v_lot 0 Rt := hm
  unfold m_law_eased at hm
  refine ⟨_, (pss_cons (ps_set (i := 1) scslEased.nd rfl (Or.inl rfl) (pe_lst pa_nil))
      (pss_cons (ps_for PassesOwn.never rfl (piK_list (K := K) rfl (pv 0)) (pg_name (i := 2) scslEased.nd rfl (Or.inl rfl)) (pss_one (ps_if (PW.pt (pw_and (pt_cmpR (opK_notIn (K := K) rfl) (pv 2) (pv 1) rfl) (pw_and1 (pt_not (pt_val (pe_ix (ixK_tup (K := K) rfl) (pe_callG X_law_rests.G (hr.mono (by decide)) hG (by rfl) X_law_rests.g X_law_rests.k X_law_rests.b pass0 (pa_cons (pe_op op_cat (pv 1) (pe_lst (pa_cons (pv 2) pa_nil))) pa_nil)) pe_int (fun _ _ => rfl))))))) (pss_one (ps_expr (peK_bm (K := K) rfl PySem.F.plainAttrs_list PySem.F.slot_list_append PySem.F.type_list_append mt_append (pv 1) (pa_cons (pv 2) pa_nil)))) pss_nil)))
      (pss_one (ps_ret (pv 1))))), ?_⟩
  have ok : OkS _ [some (.sh (enc (v_lot : (List Str)))), none, none] 0 _ Hs H := ok
  refine sq ?_
  refine go_new ok (en_lst ei_nil (by decide)) hm ?_
  intro v_found1 n σ Hs H hm ok
  have ok : OkS _ [some (.sh (enc (v_lot : (List Str)))), some (.ow ((v_found1 : (List Str)).map enc)), none] n σ Hs H := ok
  refine nx_go ?_
  refine sq ?_
  refine go_for (envOf := fun s2 : (List Str) => [some (.sh (enc (v_lot : (List Str)))), some (.ow ((s2 : (List Str)).map enc)), none]) ok (es_list (ev_var rfl)) (fun _ => eg_name) hm (fun _ _ h => h) (.keep (.keep (.keep Wk.nil))) ?_ ?_
  · intro Hs1 Ab x_3 s2 n σ Hs H N Nx hN hm ok
    have hrt := hrt.up Ab
    have ok : OkS _ [some (.sh (enc (v_lot : (List Str)))), some (.ow ((s2 : (List Str)).map enc)), some (.sh (enc (x_3 : Str)))] n σ Hs H := ok
    refine go_if ok (et_and (et_test (ev_inS (ev_var rfl) (el_own rfl))) (et_not (et_val (ev_ixT (i := 1) (g := Prod.snd) (fun _ => rfl) (fun _ => rfl) (ev_callP (m := (fun x : (List Str) × Unit => m_law_rests x.1)) (ea_cons (ev_new (en_cat (el_own rfl) (el_en (en_lst (ei_cons (ev_var rfl) ei_nil) (by decide))))) ea_nil)))))) hm ?_ ?_
    · intro n Hs H hm ok
      have hm := hm.1 rfl
      refine go_append ok rfl (ev_var rfl) hm ?_
      intro a_5 n σ Hs H hm ok
      have ok : OkS _ [some (.sh (enc (v_lot : (List Str)))), some (.ow (((s2 ++ [a_5]) : (List Str)).map enc)), some (.sh (enc (x_3 : Str)))] n σ Hs H := ok
      exact hN _ _ _ _ _ hm (ok.wk (.keep (.keep (.drop Wk.nil))))
    · intro n Hs H hm ok
      have hm := hm.2 rfl
      refine go_next ?_
      exact hN _ _ _ _ _ hm (ok.wk (.keep (.keep (.drop Wk.nil))))
  · intro s2 n σ Hs H hm ok
    have ok : OkS _ [some (.sh (enc (v_lot : (List Str)))), some (.ow ((s2 : (List Str)).map enc)), none] n σ Hs H := ok
    refine nx_go ?_
    exact go_retO (i := 1) ok rfl hm hrt

theorem scslFew : FnScope ["lot", "size", "found", "reach", "here", "step", "line"] ["lot", "size"] (defScope slFew) := ⟨rfl, rfl, rfl, by decide +kernel, rfl, by decide +kernel, by decide +kernel⟩
theorem oklFew {f : Addr} {fd : FuncData} (F : Fun K "_law_few" "_law_few" slFew f fd) (B : BuA mg) :
    FnG P w K mg base CX0 1 f fd ["lot", "size"] (spPN ⟨C, K, P, w⟩ (fun x : (List Str) × Int × Unit => m_law_few x.1 x.2.1)) := by
  refine okPN F scslFew (by decide) (fun _ => rfl) (fun cdv A outer s H Hs vs Q E x Rt hr hG hm ok hrt => ?_)
  obtain ⟨v_lot, v_size, u0⟩ := x
  replace hm : m_law_few v_lot v_size 0 Rt := hm
  unfold m_law_few at hm
  refine ⟨_, (pss_cons (ps_set (i := 2) scslFew.nd rfl (Or.inl rfl) (pe_lst (pa_cons (pe_lst (pa_cons pe_str pa_nil)) pa_nil)))
      (pss_cons (ps_for PassesOwn.never rfl (pi_range2 (by rfl) B.range (pa_cons pe_int (pa_cons (pe_op op_add (pv 1) pe_int) pa_nil))) (pg_name (i := 3) scslFew.nd rfl (Or.inl rfl)) (pss_cons (ps_set (i := 4) scslFew.nd rfl (Or.inl rfl) (pe_lst pa_nil))
      (pss_cons (ps_for PassesOwn.never rfl (piK_list (K := K) rfl (pv 0)) (pg_name (i := 5) scslFew.nd rfl (Or.inr rfl)) (pss_one (ps_if (pt_cmpR op_le (pe_callB call_len_str (by rfl) B.len PySem.boot_len (pa_cons (pv 5) pa_nil)) (pv 3) (nomark _)) (pss_one (ps_expr (peK_bm (K := K) rfl PySem.F.plainAttrs_list PySem.F.slot_list_extend PySem.F.type_list_extend mt_extend (pv 4) (pa_cons (pe_lc (own := [("line", 6)]) (g := gName 6) (tt := tYes) rfl scslFew.nd (piK_list (K := K) rfl (pe_ix (ixK_list (K := K) rfl) (pv 2) (pe_op op_sub (pv 3) (pe_callB call_len_str (by rfl) B.len PySem.boot_len (pa_cons (pv 5) pa_nil))) (fun _ _ => rfl))) (blkOk_by (N := ["lot", "size", "found", "reach", "here", "step", "line"]) (sc := defScope slFew) (by decide +kernel)) (fun _ _ _ _ _ => (pg_name (i := 6) scslFew.nd rfl (Or.inl rfl))) (fun _ _ _ _ _ => pts_nil) (fun _ _ _ _ _ => (pe_op op_add_str (pv 6) (pv 5)))) pa_nil)))) pss_nil)))
      (pss_cons (ps_if (pt_cmpR op_gt (pe_callB (callK_len (K := K) rfl) (by rfl) B.len PySem.boot_len (pa_cons (pv 4) pa_nil)) pe_int (nomark _)) (pss_one (ps_ret (pv 2))) pss_nil)
      (pss_one (ps_expr (peK_bm (K := K) rfl PySem.F.plainAttrs_list PySem.F.slot_list_append PySem.F.type_list_append mt_append (pv 2) (pa_cons (pe_callB (cr_sortedXL rfl) (by rfl) B.sorted (by decide +kernel) (pa_cons (pe_callTy (crK_setXOfL (K := K) rfl rfl) (by rfl) B.set (by decide +kernel) (pa_cons (pv 4) pa_nil)) pa_nil)) pa_nil))))))))
      (pss_one (ps_ret (pv 2))))), ?_⟩
  have ok : OkS _ [some (.sh (enc (v_lot : (List Str)))), some (.sh (enc (v_size : Int))), none, none, none, none, none] 0 _ Hs H := ok
  refine sq ?_
  refine go_new ok (en_lst (ei_cons (ev_new (en_lst (ei_cons ev_str ei_nil) (by decide))) ei_nil) (by decide)) hm ?_
  intro v_found1 n σ Hs H hm ok
  have ok : OkS _ [some (.sh (enc (v_lot : (List Str)))), some (.sh (enc (v_size : Int))), some (.ow ((v_found1 : (List (List Str))).map enc)), none, none, none, none] n σ Hs H := ok
  refine nx_go ?_
  refine sq ?_
  refine go_for (envOf := fun s2 : (List (List Str)) => [some (.sh (enc (v_lot : (List Str)))), some (.sh (enc (v_size : Int))), some (.ow ((s2 : (List (List Str))).map enc)), none, none, none, none]) ok (es_range2 ev_int (ev_add (ev_var rfl) ev_int)) (fun _ => eg_name) hm (fun _ _ h => h) (.keep (.keep (.keep (.keep (.keep (.keep (.keep Wk.nil))))))) ?_ ?_
  · intro Hs1 Ab x_3 s2 n σ Hs H N Nx hN hm ok
    have hrt := hrt.up Ab
    have ok : OkS _ [some (.sh (enc (v_lot : (List Str)))), some (.sh (enc (v_size : Int))), some (.ow ((s2 : (List (List Str))).map enc)), some (.sh (enc (x_3 : Int))), none, none, none] n σ Hs H := ok
    refine sq ?_
    refine go_new ok (en_lst ei_nil (by decide)) hm ?_
    intro v_here4 n σ Hs H hm ok
    have ok : OkS _ [some (.sh (enc (v_lot : (List Str)))), some (.sh (enc (v_size : Int))), some (.ow ((s2 : (List (List Str))).map enc)), some (.sh (enc (x_3 : Int))), some (.ow ((v_here4 : (List Str)).map enc)), none, none] n σ Hs H := ok
    refine nx_go ?_
    refine sq ?_
    refine go_for (envOf := fun s5 : (List Str) => [some (.sh (enc (v_lot : (List Str)))), some (.sh (enc (v_size : Int))), some (.ow ((s2 : (List (List Str))).map enc)), some (.sh (enc (x_3 : Int))), some (.ow ((s5 : (List Str)).map enc)), none, none]) ok (es_list (ev_var rfl)) (fun _ => eg_name) hm (fun _ _ h => h) (.keep (.keep (.keep (.keep (.keep (.keep (.keep Wk.nil))))))) ?_ ?_
    · intro Hs1 Ab x_6 s5 n σ Hs H N Nx hN hm ok
      have hrt := hrt.up Ab
      have ok : OkS _ [some (.sh (enc (v_lot : (List Str)))), some (.sh (enc (v_size : Int))), some (.ow ((s2 : (List (List Str))).map enc)), some (.sh (enc (x_3 : Int))), some (.ow ((s5 : (List Str)).map enc)), some (.sh (enc (x_6 : Str))), none] n σ Hs H := ok
      refine go_if ok (et_test (ev_le (ev_lenS (ev_var rfl)) (ev_var rfl))) hm ?_ ?_
      · intro n Hs H hm ok
        have hm := hm.1 rfl
        refine go_extend ok rfl (el_en (en_comp (es_list (ev_ixL (el_own rfl) (ev_sub (ev_var rfl) (ev_lenS (ev_var rfl))))) eg_name (by decide) (noOwnB rfl) (fun c_line9 => et_yes) (fun c_line9 => (ev_catS (ev_var rfl) (ev_var rfl))) (fun _ => rfl))) hm ?_
        intro a_8 n σ Hs H hm ok
        have ok : OkS _ [some (.sh (enc (v_lot : (List Str)))), some (.sh (enc (v_size : Int))), some (.ow ((s2 : (List (List Str))).map enc)), some (.sh (enc (x_3 : Int))), some (.ow (((s5 ++ a_8) : (List Str)).map enc)), some (.sh (enc (x_6 : Str))), none] n σ Hs H := ok
        exact hN _ _ _ _ _ hm (ok.wk (.keep (.keep (.keep (.keep (.keep (.drop (.keep Wk.nil))))))))
      · intro n Hs H hm ok
        have hm := hm.2 rfl
        refine go_next ?_
        exact hN _ _ _ _ _ hm (ok.wk (.keep (.keep (.keep (.keep (.keep (.drop (.keep Wk.nil))))))))
    · intro s5 n σ Hs H hm ok
      have ok : OkS _ [some (.sh (enc (v_lot : (List Str)))), some (.sh (enc (v_size : Int))), some (.ow ((s2 : (List (List Str))).map enc)), some (.sh (enc (x_3 : Int))), some (.ow ((s5 : (List Str)).map enc)), none, none] n σ Hs H := ok
      refine nx_go ?_
      refine sq ?_
      refine go_if ok (et_test (ev_gt (ev_lenL (el_own rfl)) ev_int)) hm ?_ ?_
      · intro n Hs H hm ok
        have hm := hm.1 rfl
        exact go_retO (i := 2) ok rfl hm hrt
      · intro n Hs H hm ok
        have hm := hm.2 rfl
        refine go_next ?_
        refine nx_go ?_
        refine go_append ok rfl (ev_new (en_sortedSetL (el_own rfl))) hm ?_
        intro a_11 n σ Hs H hm ok
        have ok : OkS _ [some (.sh (enc (v_lot : (List Str)))), some (.sh (enc (v_size : Int))), some (.ow (((s2 ++ [a_11]) : (List (List Str))).map enc)), some (.sh (enc (x_3 : Int))), some (.ow ((s5 : (List Str)).map enc)), none, none] n σ Hs H := ok
        exact hN _ _ _ _ _ hm (ok.wk (.keep (.keep (.keep (.drop (.drop (.keep (.keep Wk.nil))))))))
  · intro s2 n σ Hs H hm ok
    have ok : OkS _ [some (.sh (enc (v_lot : (List Str)))), some (.sh (enc (v_size : Int))), some (.ow ((s2 : (List (List Str))).map enc)), none, none, none, none] n σ Hs H := ok
    refine nx_go ?_
    exact go_retO (i := 2) ok rfl hm hrt

theorem scslRight : FnScope ["pool", "lot", "made", "kept", "size", "lines", "line", "at"] ["pool"] (defScope slRight) := ⟨rfl, rfl, rfl, by decide +kernel, rfl, by decide +kernel, by decide +kernel⟩
theorem oklRight {f : Addr} {fd : FuncData} (F : Fun K "_law_right" "_law_right" slRight f fd) (B : BuA mg) (T : StkC K mg C fi fe fw) {fdi : FuncData} (Gi : FnOk P w K mg base CX0 4 fi fdi ["self", "words"] (spSInit K C)) (bi : Binds K fdi ["self", "words"] []) {fdw : FuncData} {pp : Addr} (hpp : PropOf K C "words" pp fw) (Gw : FnOk P w K mg base CX0 1 fw fdw ["self"] (spSWords C)) (bw : Binds K fdw ["self"] [])
    {fX_law_draw : Addr} {fdX_law_draw : FuncData} (X_law_draw : CalG P w K mg base 1 "_law_draw" ["pool", "span"] (spL ⟨C, K, P, w⟩ (fun x : Int × Unit => m_law_draw x.1)) fX_law_draw fdX_law_draw)
    {fX_law_eased : Addr} {fdX_law_eased : FuncData} (X_law_eased : CalG P w K mg base 2 "_law_eased" ["lot"] (spPN ⟨C, K, P, w⟩ (fun x : (List Str) × Unit => m_law_eased x.1)) fX_law_eased fdX_law_eased)
    {fX_law_few : Addr} {fdX_law_few : FuncData} (X_law_few : CalG P w K mg base 1 "_law_few" ["lot", "size"] (spPN ⟨C, K, P, w⟩ (fun x : (List Str) × Int × Unit => m_law_few x.1 x.2.1)) fX_law_few fdX_law_few)
    {fX_law_known : Addr} {fdX_law_known : FuncData} (X_law_known : CalG P w K mg base 2 "_law_known" ["pool"] (spLN ⟨C, K, P, w⟩ (fun x : Unit => m_law_known)) fX_law_known fdX_law_known)
    {fX_law_lot : Addr} {fdX_law_lot : FuncData} (X_law_lot : CalG P w K mg base 3 "_law_lot" ["pool", "many", "widest"] (spLN ⟨C, K, P, w⟩ (fun x : Int × Int × Unit => m_law_lot x.1 x.2.1)) fX_law_lot fdX_law_lot)
    {fX_count_texts : Addr} {fdX_count_texts : FuncData} (X_count_texts : CalG P w K mg base 4 "count_texts" ["stock", "length"] (spP ⟨C, K, P, w⟩ (fun x : Stk × Int × Unit => m_count_texts x.1 x.2.1)) fX_count_texts fdX_count_texts)
    {fX_nth_text : Addr} {fdX_nth_text : FuncData} (X_nth_text : CalG P w K mg base 4 "nth_text" ["stock", "length", "index"] (spP ⟨C, K, P, w⟩ (fun x : Stk × Int × Int × Unit => m_nth_text x.1 x.2.1 x.2.2.1)) fX_nth_text fdX_nth_text)
    {fX_text_index : Addr} {fdX_text_index : FuncData} (X_text_index : CalG P w K mg base 4 "text_index" ["stock", "text"] (spP ⟨C, K, P, w⟩ (fun x : Stk × Str × Unit => m_text_index x.1 x.2.1)) fX_text_index fdX_text_index) (kb_X_count_texts_1_0 : KBinds K fdX_count_texts ["stock", "length"] ["length", "stock"] gTurn gTurn) (kb_X_nth_text_2_1_0 : KBinds K fdX_nth_text ["stock", "length", "index"] ["index", "length", "stock"] (gRev 3) (gRev 3)) (kb_X_text_index_1_0 : KBinds K fdX_text_index ["stock", "text"] ["text", "stock"] gTurn gTurn) :
    FnG P w K mg base CX0 7 f fd ["pool"] (spL ⟨C, K, P, w⟩ (fun x : Unit => m_law_right)) := by
  refine okL F scslRight (by decide) (fun _ => rfl) (fun cdv A outer s H Hs p vs Q E x n Rt hr hG hm ok hrt => ?_)
  obtain ⟨u0⟩ := x
  replace hm : m_law_right n Rt := hm
  unfold m_law_right at hm
  refine ⟨_, (pss_cons (ps_set (i := 1) scslRight.nd rfl (Or.inl rfl) (pe_callG X_law_eased.G (hr.mono (by decide)) hG (by rfl) X_law_eased.g X_law_eased.k X_law_eased.b pass0 (pa_cons (pe_ix (ixK_list (K := K) rfl) (pe_lst (pa_cons (pe_callG X_law_known.G (hr.mono (by decide)) hG (by rfl) X_law_known.g X_law_known.k X_law_known.b pass0 (pa_cons (pv 0) pa_nil)) (pa_cons (pe_callG X_law_lot.G (hr.mono (by decide)) hG (by rfl) X_law_lot.g X_law_lot.k X_law_lot.b pass0 (pa_cons (pv 0) (pa_cons pe_int (pa_cons pe_int pa_nil)))) pa_nil))) (pe_callG X_law_draw.G (hr.mono (by decide)) hG (by rfl) X_law_draw.g X_law_draw.k X_law_draw.b pass0 (pa_cons (pv 0) (pa_cons pe_int pa_nil))) (fun _ _ => rfl)) pa_nil)))
      (pss_cons (ps_par (i := 2) (j := 3) (by rfl) scslRight.nd rfl rfl (by decide) rfl rfl (pa_cons (pe_make T.made Gi (hr.mono (by decide)) (by rfl) T.mgC bi .nil pass0 (pa_cons (pv 1) pa_nil)) (pa_cons (pe_callTy (callK_list (K := K) rfl) (by rfl) B.list (by decide +kernel) (pa_cons (pv 1) pa_nil)) pa_nil)) (by rfl))
      (pss_cons (ps_for PassesOwn.never rfl (piK_enum (K := K) rfl (by rfl) B.enumerate (pa_cons (pe_callG X_law_few.G (hr.mono (by decide)) hG (by rfl) X_law_few.g X_law_few.k X_law_few.b pass0 (pa_cons (pv 1) (pa_cons pe_int pa_nil))) pa_nil)) (pgK_tup (K := K) (n := 2) rfl rfl (pgs_cons (pg_name (i := 4) scslRight.nd rfl (Or.inl rfl)) (pgs_cons (pg_name (i := 5) scslRight.nd rfl (Or.inl rfl)) pgs_nil))) (pss_cons (ps_if (pt_cmpR op_ne (pe_callB (callK_show (K := K) rfl hG hr.units) (by rfl) B.repr (by decide +kernel) (pa_cons (pe_lst (pa_cons (pe_callG X_count_texts.G (hr.mono (by decide)) hG (by rfl) X_count_texts.g X_count_texts.k X_count_texts.b pass0 (pa_cons (pv 2) (pa_cons (pv 4) pa_nil))) (pa_cons (pe_callGK0 X_count_texts.G (hr.mono (by decide)) hG (by rfl) X_count_texts.g X_count_texts.k kb_X_count_texts_1_0 pass0 (pk_cons (pv 4) (pk_cons (pv 2) pk_nil))) pa_nil))) pa_nil)) (pe_callB (callK_show (K := K) rfl hG hr.units) (by rfl) B.repr (by decide +kernel) (pa_cons (pe_op op_rep (pe_lst (pa_cons (pe_callB (callK_len (K := K) rfl) (by rfl) B.len PySem.boot_len (pa_cons (pv 5) pa_nil)) pa_nil)) pe_int) pa_nil)) (nomark _)) (pss_one (ps_ret pe_bl)) pss_nil)
      (pss_one (ps_for PassesOwn.never rfl (piK_list (K := K) rfl (pe_op op_cat (pe_slice (slK_list (K := K) rfl) (pv 5) po_none (po_some pe_int)) (pe_slice (slK_list (K := K) rfl) (pv 5) (po_some (pe_un un_neg pe_int)) po_none))) (pg_name (i := 6) scslRight.nd rfl (Or.inl rfl)) (pss_cons (ps_set (i := 7) scslRight.nd rfl (Or.inl rfl) (peK_bm (K := K) rfl PySem.F.plainAttrs_list PySem.F.slot_list_index PySem.F.type_list_index mt_index (pv 5) (pa_cons (pv 6) pa_nil)))
      (pss_cons (ps_if (pt_cmpR op_ne (pe_callB (callK_show (K := K) rfl hG hr.units) (by rfl) B.repr (by decide +kernel) (pa_cons (pe_lst (pa_cons (pe_callG X_nth_text.G (hr.mono (by decide)) hG (by rfl) X_nth_text.g X_nth_text.k X_nth_text.b pass0 (pa_cons (pv 2) (pa_cons (pv 4) (pa_cons (pv 7) pa_nil)))) (pa_cons (pe_callGK0 X_nth_text.G (hr.mono (by decide)) hG (by rfl) X_nth_text.g X_nth_text.k kb_X_nth_text_2_1_0 pass0 (pk_cons (pv 7) (pk_cons (pv 4) (pk_cons (pv 2) pk_nil)))) pa_nil))) pa_nil)) (pe_callB (callK_show (K := K) rfl hG hr.units) (by rfl) B.repr (by decide +kernel) (pa_cons (pe_lst (pa_cons (pv 6) (pa_cons (pv 6) pa_nil))) pa_nil)) (nomark _)) (pss_one (ps_ret pe_bl)) pss_nil)
      (pss_one (ps_if (pt_cmpR op_ne (pe_callB (callK_show (K := K) rfl hG hr.units) (by rfl) B.repr (by decide +kernel) (pa_cons (pe_lst (pa_cons (pe_callG X_text_index.G (hr.mono (by decide)) hG (by rfl) X_text_index.g X_text_index.k X_text_index.b pass0 (pa_cons (pv 2) (pa_cons (pv 6) pa_nil))) (pa_cons (pe_callGK0 X_text_index.G (hr.mono (by decide)) hG (by rfl) X_text_index.g X_text_index.k kb_X_text_index_1_0 pass0 (pk_cons (pv 6) (pk_cons (pv 2) pk_nil))) pa_nil))) pa_nil)) (pe_callB (callK_show (K := K) rfl hG hr.units) (by rfl) B.repr (by decide +kernel) (pa_cons (pe_lst (pa_cons (pv 7) (pa_cons (pv 7) pa_nil))) pa_nil)) (nomark _)) (pss_one (ps_ret pe_bl)) pss_nil))))))))
      (pss_one (ps_ret (pe_cmpR (opK_eqD (K := K) rfl hr.units) (pe_prop (pv 2) T.cl hpp Gw (hr.mono (by decide)) bw .nil pass0 rfl) (pv 3) (nomark _))))))), ?_⟩
  have ok : OkS _ [some .pl, none, none, none, none, none, none, none] n _ Hs H := ok
  refine sq ?_
  refine go_set ok (ev_new (en_callP (m := (fun x : (List Str) × Unit => m_law_eased x.1)) (ea_cons (ev_ixL (el_en (en_lst (ei_cons (ev_new (en_callL (m := (fun x : Unit => m_law_known)) rfl ea_nil)) (ei_cons (ev_new (en_callL (m := (fun x : Int × Int × Unit => m_law_lot x.1 x.2.1)) rfl (ea_cons ev_int (ea_cons ev_int ea_nil)))) ei_nil)) (by decide))) (ev_callL (m := (fun x : Int × Unit => m_law_draw x.1)) rfl (ea_cons ev_int ea_nil))) ea_nil))) hm ?_
  intro v_lot1 n σ Hs H hm ok
  have ok : OkS _ [some .pl, some (.sh (enc (v_lot1 : (List Str)))), none, none, none, none, none, none] n σ Hs H := ok
  refine nx_go ?_
  refine sq ?_
  refine go_par (by decide) ok (ev_stock (el_ev (ev_var rfl))) (ev_new (en_listOf (el_ev (ev_var rfl)))) hm (fun _ _ h => h) ?_
  intro v_made2 v_kept3 n σ Hs H hm ok
  have ok : OkS _ [some .pl, some (.sh (enc (v_lot1 : (List Str)))), some (.sh (enc (v_made2 : Stk))), some (.sh (enc (v_kept3 : (List Str)))), none, none, none, none] n σ Hs H := ok
  refine nx_go ?_
  refine sq ?_
  refine go_for (envOf := fun s4 : Unit => [some .pl, some (.sh (enc (v_lot1 : (List Str)))), some (.sh (enc (v_made2 : Stk))), some (.sh (enc (v_kept3 : (List Str)))), none, none, none, none]) ok (es_enum (ev_new (en_callP (m := (fun x : (List Str) × Int × Unit => m_law_few x.1 x.2.1)) (ea_cons (ev_var rfl) (ea_cons ev_int ea_nil))))) (fun _ => eg_tup2) hm (fun _ _ h => h) (.keep (.keep (.keep (.keep (.keep (.keep (.keep (.keep Wk.nil)))))))) ?_ ?_
  · intro Hs1 Ab x_5 s4 n σ Hs H N Nx hN hm ok
    have hrt := hrt.up Ab
    have ok : OkS _ [some .pl, some (.sh (enc (v_lot1 : (List Str)))), some (.sh (enc (v_made2 : Stk))), some (.sh (enc (v_kept3 : (List Str)))), some (.sh (enc (x_5.1 : Int))), some (.sh (enc (x_5.2 : (List Str)))), none, none] n σ Hs H := ok
    refine sq ?_
    refine go_if ok (et_test (ev_neS (ev_repr (ed_ev (ev_new (en_lst (ei_cons (ev_callP (m := (fun x : Stk × Int × Unit => m_count_texts x.1 x.2.1)) (ea_cons (ev_var rfl) (ea_cons (ev_var rfl) ea_nil))) (ei_cons (ev_callPK (m := (fun x : Stk × Int × Unit => m_count_texts x.1 x.2.1)) (fun x : Int × Stk × Unit => ((x.2.1, x.1, ()) : Stk × Int × Unit)) rp_1_0 (ea_cons (ev_var rfl) (ea_cons (ev_var rfl) ea_nil))) ei_nil)) (by decide))))) (ev_repr (ed_ev (ev_new (en_rep (el_en (en_lst (ei_cons (ev_lenL (el_ev (ev_var rfl))) ei_nil) (by decide))) ev_int)))))) hm ?_ ?_
    · intro n Hs H hm ok
      have hm := hm.1 rfl
      exact go_ret ok ev_bl hm hrt
    · intro n Hs H hm ok
      have hm := hm.2 rfl
      refine go_next ?_
      refine nx_go ?_
      refine go_for (envOf := fun s7 : Unit => [some .pl, some (.sh (enc (v_lot1 : (List Str)))), some (.sh (enc (v_made2 : Stk))), some (.sh (enc (v_kept3 : (List Str)))), some (.sh (enc (x_5.1 : Int))), some (.sh (enc (x_5.2 : (List Str)))), none, none]) ok (es_list (ev_new (en_cat (el_en (en_slL (el_ev (ev_var rfl)) eo_none (eo_some ev_int))) (el_en (en_slL (el_ev (ev_var rfl)) (eo_some (ev_neg ev_int)) eo_none))))) (fun _ => eg_name) hm (fun _ _ h => h) (.keep (.keep (.keep (.keep (.keep (.keep (.keep (.keep Wk.nil)))))))) ?_ ?_
      · intro Hs1 Ab x_8 s7 n σ Hs H N Nx hN hm ok
        have hrt := hrt.up Ab
        have ok : OkS _ [some .pl, some (.sh (enc (v_lot1 : (List Str)))), some (.sh (enc (v_made2 : Stk))), some (.sh (enc (v_kept3 : (List Str)))), some (.sh (enc (x_5.1 : Int))), some (.sh (enc (x_5.2 : (List Str)))), some (.sh (enc (x_8 : Str))), none] n σ Hs H := ok
        refine sq ?_
        refine go_set ok (ev_indexS (el_ev (ev_var rfl)) (ev_var rfl)) hm ?_
        intro v_at9 n σ Hs H hm ok
        have ok : OkS _ [some .pl, some (.sh (enc (v_lot1 : (List Str)))), some (.sh (enc (v_made2 : Stk))), some (.sh (enc (v_kept3 : (List Str)))), some (.sh (enc (x_5.1 : Int))), some (.sh (enc (x_5.2 : (List Str)))), some (.sh (enc (x_8 : Str))), some (.sh (enc (v_at9 : Int)))] n σ Hs H := ok
        refine nx_go ?_
        refine sq ?_
        refine go_if ok (et_test (ev_neS (ev_repr (ed_ev (ev_new (en_lst (ei_cons (ev_callP (m := (fun x : Stk × Int × Int × Unit => m_nth_text x.1 x.2.1 x.2.2.1)) (ea_cons (ev_var rfl) (ea_cons (ev_var rfl) (ea_cons (ev_var rfl) ea_nil)))) (ei_cons (ev_callPK (m := (fun x : Stk × Int × Int × Unit => m_nth_text x.1 x.2.1 x.2.2.1)) (fun x : Int × Int × Stk × Unit => ((x.2.2.1, x.2.1, x.1, ()) : Stk × Int × Int × Unit)) (rp_rev (k := 3) (fun _ => rfl) (fun _ => rfl)) (ea_cons (ev_var rfl) (ea_cons (ev_var rfl) (ea_cons (ev_var rfl) ea_nil)))) ei_nil)) (by decide))))) (ev_repr (ed_ev (ev_new (en_lst (ei_cons (ev_var rfl) (ei_cons (ev_var rfl) ei_nil)) (by decide))))))) hm ?_ ?_
        · intro n Hs H hm ok
          have hm := hm.1 rfl
          exact go_ret ok ev_bl hm hrt
        · intro n Hs H hm ok
          have hm := hm.2 rfl
          refine go_next ?_
          refine nx_go ?_
          refine go_if ok (et_test (ev_neS (ev_repr (ed_ev (ev_new (en_lst (ei_cons (ev_callP (m := (fun x : Stk × Str × Unit => m_text_index x.1 x.2.1)) (ea_cons (ev_var rfl) (ea_cons (ev_var rfl) ea_nil))) (ei_cons (ev_callPK (m := (fun x : Stk × Str × Unit => m_text_index x.1 x.2.1)) (fun x : Str × Stk × Unit => ((x.2.1, x.1, ()) : Stk × Str × Unit)) rp_1_0 (ea_cons (ev_var rfl) (ea_cons (ev_var rfl) ea_nil))) ei_nil)) (by decide))))) (ev_repr (ed_ev (ev_new (en_lst (ei_cons (ev_var rfl) (ei_cons (ev_var rfl) ei_nil)) (by decide))))))) hm ?_ ?_
          · intro n Hs H hm ok
            have hm := hm.1 rfl
            exact go_ret ok ev_bl hm hrt
          · intro n Hs H hm ok
            have hm := hm.2 rfl
            refine go_next ?_
            exact hN _ _ _ _ _ hm (ok.wk (.keep (.keep (.keep (.keep (.keep (.keep (.drop (.drop Wk.nil)))))))))
      · intro s7 n σ Hs H hm ok
        have ok : OkS _ [some .pl, some (.sh (enc (v_lot1 : (List Str)))), some (.sh (enc (v_made2 : Stk))), some (.sh (enc (v_kept3 : (List Str)))), some (.sh (enc (x_5.1 : Int))), some (.sh (enc (x_5.2 : (List Str)))), none, none] n σ Hs H := ok
        exact hN _ _ _ _ _ hm (ok.wk (.keep (.keep (.keep (.keep (.drop (.drop (.keep (.keep Wk.nil)))))))))
  · intro s4 n σ Hs H hm ok
    have ok : OkS _ [some .pl, some (.sh (enc (v_lot1 : (List Str)))), some (.sh (enc (v_made2 : Stk))), some (.sh (enc (v_kept3 : (List Str)))), none, none, none, none] n σ Hs H := ok
    refine nx_go ?_
    exact go_ret ok (ev_eqD (ed_ev (ev_new (en_words (ev_var rfl)))) (ed_ev (ev_var rfl))) hm hrt
end
end WH
namespace WH
open PySem PySem.Spec PyProof.Rows L2
open Enc (enc)
open EncL (encl)
/-! ### loops and comprehensions, by what holds between the turns -/
theorem cmpW_pure {α β : Type} {g : α → M (Option β)} (h : α → Option β) : ∀ {xs : List α} {n : Int} {Q : List β → Int → Prop}, (∀ x ∈ xs, ∀ n (R : Option β → Int → Prop), R (h x) n → g x n R) → Q (xs.filterMap h) n → cmpW xs g n Q
  | [], n, Q, _, q => q
  | x :: xs, n, Q, e, q => by
    show g x n _
    refine e x List.mem_cons_self n _ ?_
    show cmpW xs g n _
    refine cmpW_pure h (fun y hy => e y (List.mem_cons_of_mem _ hy)) ?_
    show Q ((h x).toList ++ xs.filterMap h) n
    rw [List.filterMap_cons] at q
    cases hx : h x with
    | none =>
      rw [hx] at q
      exact q
    | some y =>
      rw [hx] at q
      exact q
/-- all turns give something; P of each -/
theorem cmpW_all {α β : Type} {g : α → M (Option β)} (P : β → Prop) (c : Int) : ∀ {xs : List α} {n : Int} {Q : List β → Int → Prop} (N : Int), (∀ x ∈ xs, ∀ n (R : Option β → Int → Prop), n ≤ N → (∀ y n', P y → n' ≤ n + c → R (some y) n') → g x n R) → n + c * xs.length ≤ N → 0 ≤ c →
    (∀ ys n', ys.length = xs.length → (∀ y ∈ ys, P y) → n' ≤ n + c * xs.length → Q ys n') → cmpW xs g n Q
  | [], n, Q, N, _, _, _, q => q [] n rfl (fun y h => by simp at h) (by simp)
  | x :: xs, n, Q, N, e, hN, hc, q => by
    have e1 : c * ((x :: xs).length : Int) = c + c * (xs.length : Int) := by
      rw [List.length_cons]
      push_cast
      rw [Int.mul_add, Int.mul_one, Int.add_comm]
    rw [e1] at hN
    have hx : 0 ≤ c * (xs.length : Int) := Int.mul_nonneg hc (by omega)
    show g x n _
    refine e x List.mem_cons_self n _ (by omega) fun y n' hy hn' => ?_
    show cmpW xs g n' _
    refine cmpW_all P c N (fun z hz => e z (List.mem_cons_of_mem _ hz)) (by omega) hc fun ys n'' hl hys hn'' => ?_
    show Q ([y] ++ ys) n''
    exact q (y :: ys) n'' (by rw [List.length_cons, List.length_cons, hl]) (fun z hz => by
      rcases List.mem_cons.mp hz with rfl | hz
      · exact hy
      · exact hys z hz) (by rw [e1]; omega)
theorem forW_inv {α S : Type} {body : α → S → Int → (S → Int → Prop) → Prop} {done : S → Int → Prop} (I : List α → S → Int → Prop) : ∀ {xs : List α} {s : S} {n : Int}, I xs s n → (∀ x r s n (Nx : S → Int → Prop), I (x :: r) s n → (∀ s' n', I r s' n' → Nx s' n') → body x s n Nx) → (∀ s n, I [] s n → done s n) → forW body done xs s n
  | [], s, n, h, _, hd => hd s n h
  | x :: r, s, n, h, hs, hd => hs x r s n _ h fun s' n' h' => forW_inv I h' hs hd
theorem whileW_inv {S : Type} {test : S → Int → (Bool → Int → Prop) → Prop} {body : S → Int → (S → Int → Prop) → Prop} {done : S → Int → Prop} (I : S → Int → Prop) (mu : S → Nat)
    (step : ∀ s n (W : S → Int → Prop), I s n → (∀ s' n', I s' n' → mu s' < mu s → W s' n') → test s n fun b n' => (b = true → body s n' W) ∧ (b = false → done s n')) {s : S} {n : Int} (h : I s n) : ∃ k, whileW test body done k s n := by
  have key : ∀ k s n, mu s < k → I s n → whileW test body done k s n := by
    intro k
    induction k with
    | zero => intro s n h; omega
    | succ k ih =>
      intro s n hm hI
      exact step s n _ hI fun s' n' hI' hm' => ih s' n' (by omega) hI'
  exact ⟨_, key (mu s + 1) s n (by omega) h⟩
theorem join_in {S : Type} {J : S → Int → Prop} {B : (S → Int → Prop) → Prop} (I : S → Int → Prop) (h1 : ∀ s n, I s n → J s n) (h2 : ∀ J' : S → Int → Prop, (∀ s n, I s n → J' s n) → B J') : joinM J B := h2 J h1
/-! ### texts as lists of codes -/
abbrev cd (z : Str) : List Nat := z.cps.toList
theorem cd_inj {a b : Str} (h : cd a = cd b) : a = b := ext_toList h
theorem cd_len (z : Str) : (cd z).length = z.length := by simp [Str.length]
theorem cd_app (a b : Str) : cd (a ++ b) = cd a ++ cd b := by
  show (a ++ b).cps.toList = _
  rw [Str.cps_append, Array.toList_append]
theorem startswith_iff (x y : Str) : Txt.startswith x y = true ↔ cd y <+: cd x := by
  unfold Txt.startswith
  rw [StrLaws.subAt_eq, List.drop_zero]
  have key : (List.take y.length x.cps.toList = y.cps.toList) ↔ cd y <+: cd x := by
    rw [List.prefix_iff_eq_take, cd_len]
    exact eq_comm
  constructor
  · intro h
    simp only [Bool.and_eq_true, decide_eq_true_eq, beq_iff_eq] at h
    exact key.mp h.2
  · intro h
    have l := h.length_le
    rw [cd_len, cd_len] at l
    simp only [Bool.and_eq_true, decide_eq_true_eq, beq_iff_eq]
    exact ⟨by omega, key.mpr h⟩
theorem startswith_false (x y : Str) : Txt.startswith x y = false ↔ ¬ cd y <+: cd x := by
  rw [← startswith_iff]
  simp
theorem cut_from (z : Str) (k : Nat) : cd (cutS z (some (k : Int)) none) = (cd z).drop k := by
  have := cut_lo z (c := (k : Int)) (by omega)
  simpa using this
theorem cut_to (z : Str) (k : Nat) : cd (cutS z none (some (k : Int))) = (cd z).take k := by
  have := cut_hi z (c := (k : Int)) (by omega)
  simpa using this
theorem revS_cd (z : Str) : cd (revS z) = (cd z).reverse := rfl
theorem str_ext {a b : Str} : a = b ↔ cd a = cd b := ⟨fun h => by rw [h], cd_inj⟩
theorem cut_from' (z x : Str) : cd (cutS z (some (x.length : Int)) none) = (cd z).drop (cd x).length := by rw [cut_from, cd_len]
/-- z[:len(x)] == x -/
theorem cut_pre {z x : Str} : cutS z none (some (x.length : Int)) = x ↔ cd x <+: cd z := by
  rw [str_ext, cut_to, List.prefix_iff_eq_take, cd_len]
  exact ⟨fun h => h.symm, fun h => h.symm⟩
/-! ### sorted lists -/
theorem risingS_pair : ∀ {x : Str} {l : List Str}, risingS x l = true → (∀ y ∈ l, ¬ cd y < cd x) ∧ l.Pairwise (fun a b => ¬ cd b < cd a)
  | _, [], _ => ⟨fun y h => by simp at h, .nil⟩
  | x, y :: l, h => by
    unfold risingS at h
    simp only [Bool.and_eq_true, Bool.not_eq_true'] at h
    obtain ⟨h1, h2⟩ := h
    rw [ltCps_eq] at h1
    have h1 : ¬ cd y < cd x := of_decide_eq_false h1
    obtain ⟨a, b⟩ := risingS_pair h2
    refine ⟨fun z hz => ?_, .cons a b⟩
    rcases List.mem_cons.mp hz with rfl | hz
    · exact h1
    · intro q
      have := a z hz
      -- z < x and not z < y, not y < x
      have h3 : cd x ≤ cd y := List.not_lt.mp h1
      exact this (Std.lt_of_lt_of_le q h3)
theorem sortedS_pair {l : List Str} (h : sortedS l = true) : l.Pairwise (fun a b => ¬ cd b < cd a) := by
  cases l with
  | nil => exact .nil
  | cons x l =>
    obtain ⟨a, b⟩ := risingS_pair (show risingS x l = true from h)
    exact .cons a b
theorem sorted_same {l m : List Str} (h1 : sortedS l = true) (h2 : sortedS m = true) (p : l.Perm m) : l = m := by
  refine List.Perm.eq_of_pairwise (le := fun a b => ¬ cd b < cd a) ?_ (sortedS_pair h1) (sortedS_pair h2) p
  intro a b _ _ h3 h4
  exact cd_inj (Std.le_antisymm (List.not_lt.mp h3) (List.not_lt.mp h4))
theorem perm_of_mem {α : Type} [DecidableEq α] {l m : List α} (h1 : l.Nodup) (h2 : m.Nodup) (h : ∀ x, x ∈ l ↔ x ∈ m) : l.Perm m := by
  rw [List.perm_iff_count]
  intro a
  rw [h1.count, h2.count]
  by_cases q : a ∈ l
  · rw [if_pos q, if_pos ((h a).mp q)]
  · rw [if_neg q, if_neg fun z => q ((h a).mpr z)]
/-! ### == and repr of data -/
class DtOk (α : Type) [Enc α] where
  dp : Nat
  sok : α → Prop
  ok : ∀ a, sok a → noStk (enc a) = true ∧ (toPy (enc a)).canLay0 = true ∧ (toPy (enc a)).depth ≤ dp
instance : DtOk Int := ⟨0, fun _ => True, fun a _ => by refine ⟨rfl, ?_, ?_⟩ <;> simp [Enc.enc, toPy, PyData.canLay0, PyData.depth]⟩
instance : DtOk Bool := ⟨0, fun _ => True, fun a _ => by refine ⟨rfl, ?_, ?_⟩ <;> simp [Enc.enc, toPy, PyData.canLay0, PyData.depth]⟩
instance : DtOk Unit := ⟨0, fun _ => True, fun a _ => by refine ⟨rfl, ?_, ?_⟩ <;> simp [Enc.enc, toPy, PyData.canLay0, PyData.depth]⟩
instance : DtOk Str := ⟨0, fun a => PyData.strOk a = true, fun a h => by refine ⟨rfl, ?_, ?_⟩ <;> simp [Enc.enc, toPy, PyData.canLay0, PyData.depth, h]⟩
theorem okLs {ds : List Dt} {k : Nat} (h : ∀ d ∈ ds, noStk d = true ∧ (toPy d).canLay0 = true ∧ (toPy d).depth ≤ k) : noStkL ds = true ∧ PyData.canLayAll0 (toPyL ds) = true ∧ PyData.depthAll (toPyL ds) ≤ k + 1 := by
  induction ds with
  | nil => simp [noStkL, toPyL, PyData.canLayAll0, PyData.depthAll]
  | cons d ds ih =>
    obtain ⟨a1, a2, a3⟩ := h d List.mem_cons_self
    obtain ⟨b1, b2, b3⟩ := ih fun x hx => h x (List.mem_cons_of_mem _ hx)
    refine ⟨?_, ?_, ?_⟩
    · simp only [noStkL, a1, b1, Bool.and_self]
    · simp only [toPyL, PyData.canLayAll0, a2, b2, Bool.and_self]
    · simp only [toPyL, PyData.depthAll]
      omega
instance {α : Type} [Enc α] [DtOk α] : DtOk (List α) := ⟨DtOk.dp α + 2, fun l => ∀ a ∈ l, DtOk.sok a, fun l h => by
  obtain ⟨a, b, c⟩ := okLs (ds := l.map enc) (k := DtOk.dp α) fun d hd => by
    obtain ⟨x, hx, rfl⟩ := List.mem_map.mp hd
    exact DtOk.ok x (h x hx)
  refine ⟨?_, ?_, ?_⟩
  · show noStk (.lst (l.map enc)) = true
    simp only [noStk, a]
  · show (toPy (.lst (l.map enc))).canLay0 = true
    simp only [toPy, PyData.canLay0, b]
  · show (toPy (.lst (l.map enc))).depth ≤ _
    simp only [toPy, PyData.depth]
    omega⟩
instance {α β : Type} [Enc α] [Enc β] [DtOk α] [DtOk β] : DtOk (α × β) := ⟨DtOk.dp α + DtOk.dp β + 2, fun p => DtOk.sok p.1 ∧ DtOk.sok p.2, fun p h => by
  obtain ⟨a1, a2, a3⟩ := DtOk.ok p.1 h.1
  obtain ⟨b1, b2, b3⟩ := DtOk.ok p.2 h.2
  obtain ⟨a, b, c⟩ := okLs (ds := [enc p.1, enc p.2]) (k := DtOk.dp α + DtOk.dp β) fun d hd => by
    simp only [List.mem_cons, List.not_mem_nil, or_false] at hd
    rcases hd with rfl | rfl
    · exact ⟨a1, a2, by omega⟩
    · exact ⟨b1, b2, by omega⟩
  refine ⟨?_, ?_, ?_⟩
  · show noStk (.tup [enc p.1, enc p.2]) = true
    simp only [noStk, a]
  · show (toPy (.tup [enc p.1, enc p.2])).canLay0 = true
    simp only [toPy, PyData.canLay0, b]
  · show (toPy (.tup [enc p.1, enc p.2])).depth ≤ _
    simp only [toPy, PyData.depth]
    omega⟩
instance {α β γ : Type} [Enc α] [Enc β] [Enc γ] [DtOk α] [DtOk β] [DtOk γ] : DtOk (T3 α β γ) := ⟨DtOk.dp α + DtOk.dp β + DtOk.dp γ + 2, fun p => DtOk.sok p.a ∧ DtOk.sok p.b ∧ DtOk.sok p.c, fun p h => by
  obtain ⟨a1, a2, a3⟩ := DtOk.ok p.a h.1
  obtain ⟨b1, b2, b3⟩ := DtOk.ok p.b h.2.1
  obtain ⟨c1, c2, c3⟩ := DtOk.ok p.c h.2.2
  obtain ⟨a, b, c⟩ := okLs (ds := [enc p.a, enc p.b, enc p.c]) (k := DtOk.dp α + DtOk.dp β + DtOk.dp γ) fun d hd => by
    simp only [List.mem_cons, List.not_mem_nil, or_false] at hd
    rcases hd with rfl | rfl | rfl
    · exact ⟨a1, a2, by omega⟩
    · exact ⟨b1, b2, by omega⟩
    · exact ⟨c1, c2, by omega⟩
  refine ⟨?_, ?_, ?_⟩
  · show noStk (.tup [enc p.a, enc p.b, enc p.c]) = true
    simp only [noStk, a]
  · show (toPy (.tup [enc p.a, enc p.b, enc p.c])).canLay0 = true
    simp only [toPy, PyData.canLay0, b]
  · show (toPy (.tup [enc p.a, enc p.b, enc p.c])).depth ≤ _
    simp only [toPy, PyData.depth]
    omega⟩
theorem okA {α : Type} [Enc α] [DtOk α] {a : α} (h : DtOk.sok a) (hd : DtOk.dp α ≤ 64 := by decide) : okD (enc a) = true := by
  obtain ⟨h1, h2, h3⟩ := DtOk.ok a h
  unfold okD SeqAt.shaped
  rw [h1, h2, decide_eq_true (show (toPy (enc a)).depth ≤ 64 by omega)]
  rfl
/-- items of any kind, all fine -/
theorem okDs {ds : List Dt} (h : ∀ d ∈ ds, noStk d = true ∧ (toPy d).canLay0 = true ∧ (toPy d).depth ≤ 60) : okD (enc ds) = true := by
  have e : enc ds = Dt.lst ds := by
    show Dt.lst (ds.map id) = _
    rw [List.map_id]
  obtain ⟨a, b, c⟩ := okLs h
  unfold okD SeqAt.shaped
  rw [e]
  simp only [noStk, toPy, PyData.canLay0, PyData.depth, a, b, Bool.true_and]
  exact decide_eq_true (by omega)
theorem eqD_nil {ds : List Dt} : eqD (.lst ds) (.lst []) = decide (ds = []) := by
  unfold eqD
  cases ds with
  | nil => simp [toPy, toPyL, PyData.eqv, PyData.eqvAll]
  | cons d ds => simp [toPy, toPyL, PyData.eqv, PyData.eqvAll]
theorem eqE_nil {α : Type} [Enc α] {l : List α} : eqD (enc l) (enc ([] : List α)) = decide (l = []) := by
  show eqD (.lst (l.map enc)) (.lst []) = _
  rw [eqD_nil]
  cases l <;> simp
class EqOk (α : Type) [Enc α] : Prop where
  refl : ∀ a : α, eqD (enc a) (enc a) = true
  eq : ∀ a b : α, eqD (enc a) (enc b) = true → a = b
instance : EqOk Int := ⟨fun a => by simp [eqD, Enc.enc, toPy, PyData.eqv], fun a b h => by simpa [eqD, Enc.enc, toPy, PyData.eqv] using h⟩
instance : EqOk Bool := ⟨fun a => by simp [eqD, Enc.enc, toPy, PyData.eqv], fun a b h => by simpa [eqD, Enc.enc, toPy, PyData.eqv] using h⟩
instance : EqOk Str := ⟨fun a => by simp [eqD, Enc.enc, toPy, PyData.eqv], fun a b h => by simpa [eqD, Enc.enc, toPy, PyData.eqv] using h⟩
theorem eqL_refl {ds : List Dt} (h : ∀ d ∈ ds, eqD d d = true) : PyData.eqvAll (toPyL ds) (toPyL ds) = true := by
  induction ds with
  | nil => simp [toPyL, PyData.eqvAll]
  | cons d ds ih =>
    have h1 := h d List.mem_cons_self
    unfold eqD at h1
    simp only [toPyL, PyData.eqvAll, h1, ih fun x hx => h x (List.mem_cons_of_mem _ hx), Bool.and_self]
theorem eqL_eq {α : Type} [Enc α] [EqOk α] : ∀ {l m : List α}, PyData.eqvAll (toPyL (l.map enc)) (toPyL (m.map enc)) = true → l = m
  | [], [], _ => rfl
  | [], b :: m, h => by simp [toPyL, PyData.eqvAll] at h
  | a :: l, [], h => by simp [toPyL, PyData.eqvAll] at h
  | a :: l, b :: m, h => by
    simp only [List.map_cons, toPyL, PyData.eqvAll, Bool.and_eq_true] at h
    rw [EqOk.eq a b h.1, eqL_eq h.2]
instance {α : Type} [Enc α] [EqOk α] : EqOk (List α) := ⟨fun l => by
  show PyData.eqv (toPy (.lst (l.map enc))) (toPy (.lst (l.map enc))) = true
  simp only [toPy, PyData.eqv]
  exact eqL_refl fun d hd => by
    obtain ⟨x, _, rfl⟩ := List.mem_map.mp hd
    exact EqOk.refl x, fun a b h => by
  have h : PyData.eqv (toPy (.lst (a.map enc))) (toPy (.lst (b.map enc))) = true := h
  simp only [toPy, PyData.eqv] at h
  exact eqL_eq h⟩
instance {α β : Type} [Enc α] [Enc β] [EqOk α] [EqOk β] : EqOk (α × β) := ⟨fun p => by
  show PyData.eqv (toPy (.tup [enc p.1, enc p.2])) (toPy (.tup [enc p.1, enc p.2])) = true
  simp only [toPy, PyData.eqv]
  exact eqL_refl fun d hd => by
    simp only [List.mem_cons, List.not_mem_nil, or_false] at hd
    rcases hd with rfl | rfl
    · exact EqOk.refl _
    · exact EqOk.refl _, fun a b h => by
  have h : PyData.eqv (toPy (.tup [enc a.1, enc a.2])) (toPy (.tup [enc b.1, enc b.2])) = true := h
  simp only [toPy, PyData.eqv, toPyL, PyData.eqvAll, Bool.and_eq_true] at h
  exact Prod.ext (EqOk.eq _ _ h.1) (EqOk.eq _ _ h.2.1)⟩
theorem eqE {α : Type} [Enc α] [EqOk α] [DecidableEq α] (a b : α) : eqD (enc a) (enc b) = decide (a = b) := by
  by_cases h : a = b
  · subst h
    rw [EqOk.refl, decide_eq_true rfl]
  · rw [decide_eq_false h]
    cases q : eqD (enc a) (enc b) with
    | false => rfl
    | true => exact absurd (EqOk.eq a b q) h
theorem sokW {ws : List Str} (h : ∀ x ∈ ws, isL x = true) : DtOk.sok ws := fun x hx => sok_isL (h x hx)
end WH
namespace WH
open PySem PySem.Spec PyProof.Rows L2
open Enc (enc)
open EncL (encl)
/-! ### how many readings: the mathematics -/
def fit (w : Str) (t : List Nat) : Bool := t.take w.length == w.cps.toList
/-- how many readings each ending of a text has, the longest first -/
def wl (ws : List Str) : List Nat → List Nat
  | [] => [1]
  | c :: t => (ws.map fun w => if fit w (c :: t) = true then (wl ws t).getD (w.length - 1) 0 else 0).sum :: wl ws t
theorem wl_len (ws : List Str) : ∀ t : List Nat, (wl ws t).length = t.length + 1
  | [] => rfl
  | c :: t => by
    show (wl ws t).length + 1 = t.length + 1 + 1
    rw [wl_len ws t]
theorem starts_at {x y : Str} {i : Nat} (hi : i ≤ x.length) (hy : 1 ≤ y.length) : Txt.startswith3 x y (i : Int) = fit y (x.cps.toList.drop i) := by
  unfold Txt.startswith3 fit
  have e : PySem.fromIndex x.length (i : Int) = i := by
    unfold PySem.fromIndex
    rw [if_neg (by omega)]
    omega
  rw [e, StrLaws.subAt_eq]
  have hx := len_list x
  by_cases c : i + y.length ≤ x.length
  · rw [decide_eq_true c]
    rfl
  · rw [decide_eq_false c, Bool.false_and]
    symm
    rw [beq_eq_false_iff_ne]
    intro z
    have z' := congrArg List.length z
    rw [List.length_take, List.length_drop, ← hx, ← len_list y] at z'
    omega
theorem fit_len {w : Str} {t : List Nat} (h : fit w t = true) : w.length ≤ t.length := by
  unfold fit at h
  have e := congrArg List.length (eq_of_beq h)
  rw [List.length_take, ← len_list w] at e
  omega
/-- one entry -/
def ent (ws : List Str) (t : List Nat) (r : List Nat) : Nat := (ws.map fun w => if fit w t = true then r.getD (w.length - 1) 0 else 0).sum
theorem wl_cons (ws : List Str) (c : Nat) (t : List Nat) : wl ws (c :: t) = ent ws (c :: t) (wl ws t) :: wl ws t := rfl
theorem drop_cons {t : List Nat} {m : Nat} (h : m < t.length) : t.drop m = t[m] :: t.drop (m + 1) := List.drop_eq_getElem_cons h
theorem sum_cast : ∀ l : List Nat, (l.map fun (n : Nat) => (n : Int)).sum = ((l.sum : Nat) : Int)
  | [] => rfl
  | x :: r => by
    rw [List.map_cons, List.sum_cons, List.sum_cons, sum_cast r]
    push_cast
    rfl
/-! ### all readings of a text: the mathematics -/
def rdF (ws : List Str) : Nat → List Nat → List (List Nat)
  | 0, t => if t = [] then [[]] else []
  | n + 1, t => if t = [] then [[]] else (ws.zipIdx.map fun p => if fit p.1 t = true then (rdF ws n (t.drop p.1.length)).map (p.2 :: ·) else []).flatten
theorem wl_drop (ws : List Str) : ∀ (t : List Nat) (k : Nat), k ≤ t.length → (wl ws t).drop k = wl ws (t.drop k)
  | [], k, h => by
    have : k = 0 := by simpa using h
    subst this
    rfl
  | c :: t, 0, _ => rfl
  | c :: t, k + 1, h => by
    rw [wl_cons, List.drop_succ_cons, List.drop_succ_cons]
    exact wl_drop ws t k (by simpa using h)
theorem wl_getD (ws : List Str) {t : List Nat} {k : Nat} (h : k ≤ t.length) : (wl ws t).getD k 0 = (wl ws (t.drop k)).headD 0 := by
  rw [← wl_drop ws t k h]
  rw [List.getD_eq_getElem?_getD, ← List.head?_drop]
  cases (wl ws t).drop k <;> rfl
/-- how many readings begin with a word -/
def eOf (ws : List Str) (t : List Nat) (w : Str) : Nat := if fit w t = true then (wl ws (t.drop w.length)).headD 0 else 0
theorem ent_eq (ws : List Str) (hw : ∀ x ∈ ws, 1 ≤ x.length) {c : Nat} {t : List Nat} : ∀ vs : List Str, (∀ x ∈ vs, 1 ≤ x.length) → (vs.map fun w => if fit w (c :: t) = true then (wl ws t).getD (w.length - 1) 0 else 0) = vs.map (eOf ws (c :: t))
  | [], _ => rfl
  | v :: vs, h => by
    rw [List.map_cons, List.map_cons, ent_eq ws hw vs fun x hx => h x (List.mem_cons_of_mem _ hx)]
    congr 1
    unfold eOf
    by_cases hf : fit v (c :: t) = true
    · rw [if_pos hf, if_pos hf]
      have hl := fit_len hf
      have h1 := h v List.mem_cons_self
      rw [List.length_cons] at hl
      rw [wl_getD ws (by omega)]
      congr 2
      obtain ⟨m, hm⟩ : ∃ m, v.length = m + 1 := ⟨v.length - 1, by omega⟩
      rw [hm, List.drop_succ_cons, Nat.add_sub_cancel]
    · rw [if_neg hf, if_neg hf]
theorem rdF_len (ws : List Str) (hw : ∀ x ∈ ws, 1 ≤ x.length) : ∀ (n : Nat) (t : List Nat), t.length ≤ n → (rdF ws n t).length = (wl ws t).headD 0
  | 0, t, h => by
    have : t = [] := List.length_eq_zero_iff.mp (by omega)
    subst this
    rfl
  | n + 1, [], _ => rfl
  | n + 1, c :: t, h => by
    show ((ws.zipIdx.map fun p => if fit p.1 (c :: t) = true then (rdF ws n ((c :: t).drop p.1.length)).map (p.2 :: ·) else []).flatten).length = _
    rw [wl_cons, List.headD_cons]
    unfold ent
    rw [ent_eq ws hw ws hw, List.length_flatten, List.map_map]
    have e : ∀ (vs : List Str) (k : Nat), (∀ x ∈ vs, 1 ≤ x.length) → ((vs.zipIdx k).map (List.length ∘ fun p => if fit p.1 (c :: t) = true then (rdF ws n ((c :: t).drop p.1.length)).map (p.2 :: ·) else [])) = vs.map (eOf ws (c :: t)) := by
      intro vs
      induction vs with
      | nil => intro k _; rfl
      | cons v vs ih =>
        intro k hv
        rw [List.zipIdx_cons, List.map_cons, List.map_cons, ih (k + 1) fun x hx => hv x (List.mem_cons_of_mem _ hx)]
        congr 1
        show List.length (if fit v (c :: t) = true then _ else _) = eOf ws (c :: t) v
        unfold eOf
        by_cases hf : fit v (c :: t) = true
        · rw [if_pos hf, if_pos hf, List.length_map]
          have h1 := hv v List.mem_cons_self
          refine rdF_len ws hw n _ ?_
          show ((c :: t).drop v.length).length ≤ n
          rw [List.length_drop]
          omega
        · rw [if_neg hf, if_neg hf]
          rfl
    rw [e ws 0 hw]
/-- where an index lies among blocks -/
theorem flat_at {α : Type} : ∀ (bs : List (List α)) (i : Nat), i < bs.flatten.length → ∃ (b k : Nat) (l : List α), bs[b]? = some l ∧ k < l.length ∧ i = ((bs.take b).map List.length).sum + k ∧ bs.flatten[i]? = l[k]?
  | [], i, h => by simp at h
  | l :: bs, i, h => by
    by_cases c : i < l.length
    · exact ⟨0, i, l, rfl, c, by simp, by rw [List.flatten_cons, List.getElem?_append_left c]⟩
    · rw [List.flatten_cons, List.length_append] at h
      obtain ⟨b, k, l', h1, h2, h3, h4⟩ := flat_at bs (i - l.length) (by omega)
      refine ⟨b + 1, k, l', by simpa using h1, h2, ?_, ?_⟩
      · rw [List.take_succ_cons, List.map_cons, List.sum_cons]
        omega
      · rw [List.flatten_cons, List.getElem?_append_right (by omega), h4]
/-- the number of a reading, by what stands ahead of it -/
def idx (ws : List Str) : List Nat → List Nat → Nat
  | _, [] => 0
  | t, i :: r => ((ws.take i).map (eOf ws t)).sum + idx ws (t.drop (ws.getD i ⟨#[]⟩).length) r
theorem rd_nth (ws : List Str) (hw : ∀ x ∈ ws, 1 ≤ x.length) {n : Nat} {c : Nat} {t : List Nat} (h : (c :: t).length ≤ n + 1) {at' : Nat} (ha : at' < (rdF ws (n + 1) (c :: t)).length) :
    ∃ (b k : Nat) (v : Str), ws[b]? = some v ∧ fit v (c :: t) = true ∧ k < eOf ws (c :: t) v ∧ at' = ((ws.take b).map (eOf ws (c :: t))).sum + k ∧ (rdF ws (n + 1) (c :: t))[at']? = ((rdF ws n ((c :: t).drop v.length))[k]?).map (b :: ·) := by
  have er : rdF ws (n + 1) (c :: t) = (ws.zipIdx.map fun p => if fit p.1 (c :: t) = true then (rdF ws n ((c :: t).drop p.1.length)).map (p.2 :: ·) else []).flatten := rfl
  rw [er] at ha ⊢
  obtain ⟨b, k, l, h1, h2, h3, h4⟩ := flat_at _ _ ha
  rw [List.getElem?_map] at h1
  have hz : ws.zipIdx[b]? = (ws[b]?).map fun v => (v, b) := by simp
  rw [hz] at h1
  cases hv : ws[b]? with
  | none =>
    rw [hv] at h1
    cases h1
  | some v =>
    rw [hv] at h1
    have el := Option.some.inj h1
    dsimp only at el
    by_cases hf : fit v (c :: t) = true
    · rw [if_pos hf] at el
      subst el
      have hv1 := hw v (List.mem_of_getElem? hv)
      have hlen : (rdF ws n ((c :: t).drop v.length)).length = eOf ws (c :: t) v := by
        unfold eOf
        rw [if_pos hf]
        refine rdF_len ws hw n _ ?_
        rw [List.length_drop]
        omega
      refine ⟨b, k, v, hv, hf, ?_, ?_, ?_⟩
      · rw [List.length_map, hlen] at h2
        exact h2
      · rw [h3]
        congr 1
        rw [← List.map_take, List.map_map]
        have e : ∀ (vs : List Str) (j m : Nat), (∀ x ∈ vs, 1 ≤ x.length) → (((vs.zipIdx j).take m).map (List.length ∘ fun p => if fit p.1 (c :: t) = true then (rdF ws n ((c :: t).drop p.1.length)).map (p.2 :: ·) else [])) = (vs.take m).map (eOf ws (c :: t)) := by
          intro vs
          induction vs with
          | nil => intro j m _; simp
          | cons u vs ih =>
            intro j m hu
            cases m with
            | zero => rfl
            | succ m =>
              rw [List.zipIdx_cons, List.take_succ_cons, List.take_succ_cons, List.map_cons, List.map_cons, ih (j + 1) m fun x hx => hu x (List.mem_cons_of_mem _ hx)]
              congr 1
              show List.length (if fit u (c :: t) = true then _ else _) = eOf ws (c :: t) u
              unfold eOf
              by_cases hg : fit u (c :: t) = true
              · rw [if_pos hg, if_pos hg, List.length_map]
                have u1 := hu u List.mem_cons_self
                refine rdF_len ws hw n _ ?_
                show ((c :: t).drop u.length).length ≤ n
                rw [List.length_drop]
                omega
              · rw [if_neg hg, if_neg hg]
                rfl
        rw [e ws 0 b hw]
      · rw [h4, List.getElem?_map]
    · rw [if_neg hf] at el
      subst el
      simp at h2
/-- the index of a reading is its place -/
theorem idx_nth (ws : List Str) (hw : ∀ x ∈ ws, 1 ≤ x.length) : ∀ (n : Nat) (t : List Nat), t.length ≤ n → ∀ (at' : Nat) (row : List Nat), (rdF ws n t)[at']? = some row → idx ws t row = at'
  | 0, t, h, at', row, hr => by
    have e : t = [] := List.length_eq_zero_iff.mp (by omega)
    subst e
    have hr' : ([[]] : List (List Nat))[at']? = some row := hr
    cases at' with
    | zero =>
      have e2 : [] = row := Option.some.inj hr'
      subst e2
      rfl
    | succ k => simp at hr'
  | n + 1, [], h, at', row, hr => by
    have hr' : ([[]] : List (List Nat))[at']? = some row := hr
    cases at' with
    | zero =>
      have e2 : [] = row := Option.some.inj hr'
      subst e2
      rfl
    | succ k => simp at hr'
  | n + 1, c :: t, h, at', row, hr => by
    have ha := (List.getElem?_eq_some_iff.mp hr).1
    obtain ⟨b, k, v, h1, h2, h3, h4, h5⟩ := rd_nth ws hw h ha
    rw [h5] at hr
    cases hk : (rdF ws n ((c :: t).drop v.length))[k]? with
    | none =>
      rw [hk] at hr
      cases hr
    | some r =>
      rw [hk] at hr
      have e : b :: r = row := Option.some.inj hr
      subst e
      have v1 := hw v (List.mem_of_getElem? h1)
      have ih := idx_nth ws hw n ((c :: t).drop v.length) (by rw [List.length_drop]; omega) k r hk
      show ((ws.take b).map (eOf ws (c :: t))).sum + idx ws ((c :: t).drop (ws.getD b ⟨#[]⟩).length) r = at'
      have eg : ws.getD b ⟨#[]⟩ = v := by rw [List.getD_eq_getElem?_getD, h1]; rfl
      rw [eg, ih, h4]

/-! ### all readings, whatever the fuel -/
theorem rdF_fuel (ws : List Str) (hw : ∀ x ∈ ws, 1 ≤ x.length) : ∀ (n m : Nat) (t : List Nat), t.length ≤ n → t.length ≤ m → rdF ws n t = rdF ws m t
  | 0, m, t, hn, _ => by
    have e : t = [] := List.length_eq_zero_iff.mp (by omega)
    subst e
    cases m <;> rfl
  | n + 1, m, [], _, _ => by cases m <;> rfl
  | n + 1, 0, c :: t, _, hm => by simp at hm
  | n + 1, m + 1, c :: t, hn, hm => by
    show (ws.zipIdx.map fun p => if fit p.1 (c :: t) = true then (rdF ws n ((c :: t).drop p.1.length)).map (p.2 :: ·) else []).flatten = (ws.zipIdx.map fun p => if fit p.1 (c :: t) = true then (rdF ws m ((c :: t).drop p.1.length)).map (p.2 :: ·) else []).flatten
    congr 1
    refine List.map_congr_left fun p hp => ?_
    have h1 := hw p.1 (List.fst_mem_of_mem_zipIdx hp)
    have hl : ((c :: t).drop p.1.length).length ≤ n ∧ ((c :: t).drop p.1.length).length ≤ m := by
      rw [List.length_drop]
      omega
    rw [rdF_fuel ws hw n m _ hl.1 hl.2]
def RD (ws : List Str) (t : List Nat) : List (List Nat) := rdF ws t.length t
theorem RD_nil (ws : List Str) : RD ws [] = [[]] := rfl
theorem RD_len {ws : List Str} (hw : ∀ x ∈ ws, 1 ≤ x.length) (t : List Nat) : (RD ws t).length = (wl ws t).headD 0 := rdF_len ws hw _ t (Nat.le_refl _)
theorem RD_nth {ws : List Str} (hw : ∀ x ∈ ws, 1 ≤ x.length) {t : List Nat} (ht : t ≠ []) {at' : Nat} {row : List Nat} (h : (RD ws t)[at']? = some row) :
    ∃ (b k : Nat) (v : Str) (rest : List Nat), ws[b]? = some v ∧ fit v t = true ∧ k < eOf ws t v ∧ at' = ((ws.take b).map (eOf ws t)).sum + k ∧ row = b :: rest ∧ (RD ws (t.drop v.length))[k]? = some rest := by
  cases t with
  | nil => exact absurd rfl ht
  | cons c t =>
    have ha := (List.getElem?_eq_some_iff.mp h).1
    obtain ⟨b, k, v, h1, h2, h3, h4, h5⟩ := rd_nth ws hw (n := t.length) (c := c) (t := t) (Nat.le_refl _) (at' := at') ha
    have h' : (rdF ws (t.length + 1) (c :: t))[at']? = some row := h
    rw [h5] at h'
    cases hk : (rdF ws t.length ((c :: t).drop v.length))[k]? with
    | none =>
      rw [hk] at h'
      cases h'
    | some r =>
      rw [hk] at h'
      refine ⟨b, k, v, r, h1, h2, h3, h4, (Option.some.inj h').symm, ?_⟩
      have v1 := hw v (List.mem_of_getElem? h1)
      unfold RD
      rw [rdF_fuel ws hw _ t.length _ (Nat.le_refl _) (by rw [List.length_drop, List.length_cons]; omega)]
      exact hk
theorem RD_run {ws : List Str} (hw : ∀ x ∈ ws, 1 ≤ x.length) : ∀ (n : Nat) (t : List Nat), t.length ≤ n → ∀ (at' : Nat) (row : List Nat), (RD ws t)[at']? = some row → (∀ i ∈ row, i < ws.length) ∧ (row.map fun i => (ws.getD i ⟨#[]⟩).cps.toList).flatten = t
  | n, [], _, at', row, h => by
    rw [RD_nil] at h
    cases at' with
    | zero =>
      have e : [] = row := Option.some.inj h
      subst e
      exact ⟨fun i hi => absurd hi List.not_mem_nil, rfl⟩
    | succ k => simp at h
  | 0, c :: t, hn, _, _, _ => by simp at hn
  | n + 1, c :: t, hn, at', row, h => by
    obtain ⟨b, k, v, rest, h1, h2, _, _, rfl, h5⟩ := RD_nth hw (List.cons_ne_nil _ _) h
    have v1 := hw v (List.mem_of_getElem? h1)
    obtain ⟨g1, g2⟩ := RD_run hw n ((c :: t).drop v.length) (by rw [List.length_drop]; omega) k rest h5
    refine ⟨fun i hi => ?_, ?_⟩
    · rcases List.mem_cons.mp hi with e | e
      · subst e
        exact (List.getElem?_eq_some_iff.mp h1).1
      · exact g1 i e
    · rw [List.map_cons, List.flatten_cons, g2]
      have eg : ws.getD b ⟨#[]⟩ = v := by rw [List.getD_eq_getElem?_getD, h1]; rfl
      rw [eg]
      unfold fit at h2
      have e := eq_of_beq h2
      rw [← e, List.take_append_drop]
theorem RD_idx {ws : List Str} (hw : ∀ x ∈ ws, 1 ≤ x.length) {t : List Nat} {at' : Nat} {row : List Nat} (h : (RD ws t)[at']? = some row) : idx ws t row = at' := idx_nth ws hw _ t (Nat.le_refl _) at' row h
theorem RD_row_len {ws : List Str} (hw : ∀ x ∈ ws, 1 ≤ x.length) : ∀ (n : Nat) (t : List Nat), t.length ≤ n → ∀ (at' : Nat) (row : List Nat), (RD ws t)[at']? = some row → row.length ≤ t.length
  | n, [], _, at', row, h => by
    rw [RD_nil] at h
    cases at' with
    | zero =>
      have e : [] = row := Option.some.inj h
      subst e
      exact Nat.le_refl _
    | succ k => simp at h
  | 0, c :: t, hn, _, _, _ => by simp at hn
  | n + 1, c :: t, hn, at', row, h => by
    obtain ⟨b, k, v, rest, h1, h2, _, _, rfl, h5⟩ := RD_nth hw (List.cons_ne_nil _ _) h
    have v1 := hw v (List.mem_of_getElem? h1)
    have ih := RD_row_len hw n ((c :: t).drop v.length) (by rw [List.length_drop]; omega) k rest h5
    rw [List.length_drop] at ih
    rw [List.length_cons]
    simp only [List.length_cons] at ih ⊢
    omega

theorem take_snocQ {α : Type} {l : List α} {i : Nat} {x : α} (h : l[i]? = some x) : l.take (i + 1) = l.take i ++ [x] := by
  rw [List.take_add_one, h]
  rfl
def blk (ws : List Str) (t : List Nat) (i : Nat) : List (List Nat) := ((ws.zipIdx.take i).map fun p => if fit p.1 t = true then (RD ws (t.drop p.1.length)).map (p.2 :: ·) else []).flatten
theorem blk_succ {ws : List Str} {t : List Nat} {i : Nat} {v : Str} (h : ws[i]? = some v) : blk ws t (i + 1) = blk ws t i ++ (if fit v t = true then (RD ws (t.drop v.length)).map (i :: ·) else []) := by
  unfold blk
  have e : ws.zipIdx[i]? = some (v, i) := by
    have : ws.zipIdx[i]? = (ws[i]?).map fun v => (v, i) := by simp
    rw [this, h]
    rfl
  rw [take_snocQ e, List.map_append, List.flatten_append, List.map_singleton, List.flatten_singleton]
theorem blk_all {ws : List Str} (hw : ∀ x ∈ ws, 1 ≤ x.length) {t : List Nat} (ht : t ≠ []) : blk ws t ws.length = RD ws t := by
  cases t with
  | nil => exact absurd rfl ht
  | cons c t =>
    unfold blk
    rw [List.take_of_length_le (by simp)]
    show _ = (ws.zipIdx.map fun p => if fit p.1 (c :: t) = true then (rdF ws t.length ((c :: t).drop p.1.length)).map (p.2 :: ·) else []).flatten
    congr 1
    refine List.map_congr_left fun p hp => ?_
    have h1 := hw p.1 (List.fst_mem_of_mem_zipIdx hp)
    unfold RD
    rw [rdF_fuel ws hw _ t.length _ (Nat.le_refl _) (by rw [List.length_drop, List.length_cons]; omega)]
theorem blk_le {ws : List Str} (hw : ∀ x ∈ ws, 1 ≤ x.length) {t : List Nat} (ht : t ≠ []) (i : Nat) : (blk ws t i).length ≤ (RD ws t).length := by
  rw [← blk_all hw ht]
  unfold blk
  have e : (ws.zipIdx.take ws.length) = (ws.zipIdx.take i) ++ (ws.zipIdx.drop i) := by
    rw [List.take_append_drop, List.take_of_length_le (by simp)]
  rw [e, List.map_append, List.flatten_append, List.length_append]
  exact Nat.le_add_right _ _
/-- a list of lists of numbers -/
theorem sum_pow_lt : ∀ (n : Nat) (L : List Nat), L.Nodup → (∀ l ∈ L, 1 ≤ l ∧ l ≤ n) → (L.map fun l => 2 ^ (n - l)).sum < 2 ^ n
  | 0, [], _, _ => by decide
  | 0, l :: L, _, h => by
    have := h l List.mem_cons_self
    omega
  | n + 1, L, nd, h => by
    have key : ∀ M : List Nat, M.Nodup → (∀ l ∈ M, 2 ≤ l ∧ l ≤ n + 1) → (M.map fun l => 2 ^ (n + 1 - l)).sum < 2 ^ n := by
      intro M mn mh
      have ih := sum_pow_lt n (M.map fun l => l - 1) ?_ ?_
      · rw [List.map_map] at ih
        have e : (M.map fun l => 2 ^ (n + 1 - l)) = M.map ((fun l => 2 ^ (n - l)) ∘ fun l => l - 1) := by
          refine List.map_congr_left fun l hl => ?_
          have := mh l hl
          show 2 ^ (n + 1 - l) = 2 ^ (n - (l - 1))
          congr 1
          omega
        rw [e]
        exact ih
      · refine List.pairwise_map.mpr (List.Pairwise.imp_of_mem (fun {a b} ha hb hab => ?_) mn)
        have h1 := mh a ha
        have h2 := mh b hb
        omega
      · intro l hl
        obtain ⟨m, hm, rfl⟩ := List.mem_map.mp hl
        have := mh m hm
        omega
    by_cases c : 1 ∈ L
    · have p := List.perm_cons_erase c
      have e := List.Perm.sum_nat (List.Perm.map (fun l => 2 ^ (n + 1 - l)) p)
      rw [e, List.map_cons, List.sum_cons]
      have k := key (L.erase 1) (nd.erase 1) (fun l hl => by
        have h1 := h l (List.mem_of_mem_erase hl)
        have h2 : l ≠ 1 := (List.Nodup.mem_erase_iff nd).mp hl |>.1
        omega)
      have : (2 : Nat) ^ (n + 1) = 2 ^ n + 2 ^ n := by omega
      have e2 : n + 1 - 1 = n := by omega
      rw [e2]
      omega
    · have k := key L nd (fun l hl => by
        have h1 := h l hl
        have h2 : l ≠ 1 := fun z => c (z ▸ hl)
        omega)
      have : (2 : Nat) ^ (n + 1) = 2 ^ n + 2 ^ n := by omega
      omega
theorem str_of_list {x y : Str} (h : x.cps.toList = y.cps.toList) : x = y := by
  cases x
  cases y
  congr 1
  exact Array.toList_inj.mp h
theorem sum_filter (q : Str → Bool) (f : Str → Nat) : ∀ l : List Str, (∀ x ∈ l, q x = false → f x = 0) → (l.map f).sum = ((l.filter q).map f).sum
  | [], _ => rfl
  | x :: l, h => by
    have ih := sum_filter q f l fun y hy => h y (List.mem_cons_of_mem _ hy)
    rw [List.map_cons, List.sum_cons, ih]
    cases c : q x with
    | true => rw [List.filter_cons_of_pos c, List.map_cons, List.sum_cons]
    | false =>
      rw [List.filter_cons_of_neg (by simp [c]), h x List.mem_cons_self c]
      omega
theorem sum_le_map {f g : Str → Nat} : ∀ l : List Str, (∀ x ∈ l, f x ≤ g x) → (l.map f).sum ≤ (l.map g).sum
  | [], _ => Nat.le_refl _
  | x :: l, h => by
    rw [List.map_cons, List.map_cons, List.sum_cons, List.sum_cons]
    have := sum_le_map l fun y hy => h y (List.mem_cons_of_mem _ hy)
    have := h x List.mem_cons_self
    omega
theorem wl_small {ws : List Str} (hw : ∀ x ∈ ws, 1 ≤ x.length) (nd : ws.Nodup) : ∀ (n : Nat) (t : List Nat), t.length ≤ n → (wl ws t).headD 0 ≤ 2 ^ t.length
  | _, [], _ => Nat.le_refl 1
  | 0, c :: t, h => by simp at h
  | n + 1, c :: t, h => by
    rw [wl_cons, List.headD_cons]
    unfold ent
    rw [ent_eq ws hw ws hw, sum_filter (fun w => fit w (c :: t)) (eOf ws (c :: t)) ws (fun x _ hq => by unfold eOf; rw [if_neg (by rw [hq]; exact Bool.false_ne_true)])]
    have h1 : ((ws.filter fun w => fit w (c :: t)).map (eOf ws (c :: t))).sum ≤ ((ws.filter fun w => fit w (c :: t)).map fun w => 2 ^ ((c :: t).length - w.length)).sum := by
      refine sum_le_map _ fun x hx => ?_
      obtain ⟨hx1, hx2⟩ := List.mem_filter.mp hx
      have x1 := hw x hx1
      unfold eOf
      rw [if_pos hx2]
      have ih := wl_small hw nd n ((c :: t).drop x.length) (by rw [List.length_drop]; omega)
      rw [List.length_drop] at ih
      exact ih
    have h2 := sum_pow_lt (c :: t).length ((ws.filter fun w => fit w (c :: t)).map (·.length)) ?_ ?_
    · rw [List.map_map] at h2
      exact Nat.le_of_lt (Nat.lt_of_le_of_lt h1 h2)
    · refine List.pairwise_map.mpr (List.Pairwise.imp_of_mem (fun {a b} ha hb hab => ?_) (nd.filter _))
      obtain ⟨_, ha2⟩ := List.mem_filter.mp ha
      obtain ⟨_, hb2⟩ := List.mem_filter.mp hb
      unfold fit at ha2 hb2
      intro e
      apply hab
      apply str_of_list
      rw [← eq_of_beq ha2, ← eq_of_beq hb2, e]
    · intro l hl
      obtain ⟨x, hx, rfl⟩ := List.mem_map.mp hl
      obtain ⟨hx1, hx2⟩ := List.mem_filter.mp hx
      exact ⟨hw x hx1, fit_len hx2⟩
theorem RD_small {ws : List Str} (hw : ∀ x ∈ ws, 1 ≤ x.length) (nd : ws.Nodup) (t : List Nat) : (RD ws t).length ≤ 2 ^ t.length := by
  rw [RD_len hw]
  exact wl_small hw nd _ t (Nat.le_refl _)

def codes (ws : List Str) (row : List Nat) : List Nat := (row.map fun i => (ws.getD i ⟨#[]⟩).cps.toList).flatten
theorem codes_drop {ws : List Str} {row : List Nat} {i : Nat} : (codes ws row).drop (codes ws (row.take i)).length = codes ws (row.drop i) := by
  have e : codes ws row = codes ws (row.take i) ++ codes ws (row.drop i) := by
    unfold codes
    rw [← List.flatten_append, ← List.map_append, List.take_append_drop]
  rw [e, List.drop_left]
theorem codes_snoc {ws : List Str} {row : List Nat} {i n : Nat} {x : Str} (hn : row[i]? = some n) (hx : ws[n]? = some x) : codes ws (row.take (i + 1)) = codes ws (row.take i) ++ x.cps.toList := by
  unfold codes
  rw [take_snocQ hn, List.map_append, List.flatten_append]
  have eg : ws.getD n ⟨#[]⟩ = x := by rw [List.getD_eq_getElem?_getD, hx]; rfl
  rw [List.map_singleton, List.flatten_singleton, eg]
theorem codes_cons (ws : List Str) (i : Nat) (r : List Nat) : codes ws (i :: r) = cd (ws.getD i ⟨#[]⟩) ++ codes ws r := by
  simp [codes]
theorem RD_mem {ws : List Str} (hw : ∀ x ∈ ws, 1 ≤ x.length) : ∀ (row : List Nat) (t : List Nat), (∀ i ∈ row, i < ws.length) → codes ws row = t → row ∈ RD ws t
  | [], t, _, e => by
    subst e
    exact List.mem_singleton.mpr rfl
  | i :: r, t, h, e => by
    have hi := h i List.mem_cons_self
    have hv : ws[i]? = some ws[i] := List.getElem?_eq_getElem hi
    have eg : ws.getD i ⟨#[]⟩ = ws[i] := by rw [List.getD_eq_getElem?_getD, hv]; rfl
    have v1 := hw ws[i] (List.getElem_mem hi)
    have vl := cd_len ws[i]
    rw [codes_cons, eg] at e
    match t, e with
    | [], e =>
      have := (List.append_eq_nil_iff.mp e).1
      rw [this] at vl
      simp at vl
      omega
    | c :: t, e =>
      have er : RD ws (c :: t) = (ws.zipIdx.map fun p => if fit p.1 (c :: t) = true then (rdF ws t.length ((c :: t).drop p.1.length)).map (p.2 :: ·) else []).flatten := rfl
      rw [er]
      refine List.mem_flatten.mpr ⟨_, List.mem_map.mpr ⟨(ws[i], i), List.mem_zipIdx_iff_getElem?.mpr hv, rfl⟩, ?_⟩
      have f : fit ws[i] (c :: t) = true := by
        unfold fit
        rw [← e, ← vl, List.take_left]
        exact beq_self_eq_true _
      show i :: r ∈ if fit ws[i] (c :: t) = true then _ else _
      rw [if_pos f]
      refine List.mem_map.mpr ⟨r, ?_, rfl⟩
      have ed : (c :: t).drop ws[i].length = codes ws r := by rw [← e, ← vl, List.drop_left]
      have fu := rdF_fuel ws hw t.length ((c :: t).drop ws[i].length).length ((c :: t).drop ws[i].length) (by rw [List.length_drop, List.length_cons]; omega) (Nat.le_refl _)
      show r ∈ rdF ws t.length ((c :: t).drop ws[i].length)
      rw [fu]
      exact RD_mem hw r _ (fun j hj => h j (List.mem_cons_of_mem _ hj)) ed.symm
theorem RD_codes {ws : List Str} (hw : ∀ x ∈ ws, 1 ≤ x.length) {t : List Nat} {k : Nat} {row : List Nat} (h : (RD ws t)[k]? = some row) : (∀ i ∈ row, i < ws.length) ∧ codes ws row = t := RD_run hw _ t (Nat.le_refl _) k row h
theorem RD_ne {ws : List Str} (hw : ∀ x ∈ ws, 1 ≤ x.length) {t : List Nat} {i j : Nat} {r s : List Nat} (h1 : (RD ws t)[i]? = some r) (h2 : (RD ws t)[j]? = some s) (ij : i ≠ j) : r ≠ s := fun e => ij (by
  subst e
  rw [← RD_idx hw h1, ← RD_idx hw h2])
/-- two readings: the first and the second one are there -/
theorem RD_two {ws : List Str} (hw : ∀ x ∈ ws, 1 ≤ x.length) {t : List Nat} {r s : List Nat} (h1 : r ∈ RD ws t) (h2 : s ∈ RD ws t) (ne : r ≠ s) : 2 ≤ (RD ws t).length := by
  obtain ⟨i, hi, rfl⟩ := List.getElem_of_mem h1
  obtain ⟨j, hj, rfl⟩ := List.getElem_of_mem h2
  have : i ≠ j := fun e => ne (by subst e; rfl)
  omega
end WH
namespace WH
/-! ### powers of lists, and their roots -/
abbrev pw (l : List Nat) (m : Nat) : List Nat := (List.replicate m l).flatten
theorem pw_zero (l : List Nat) : pw l 0 = [] := rfl
theorem pw_succ (l : List Nat) (m : Nat) : pw l (m + 1) = l ++ pw l m := by simp [pw, List.replicate_succ]
theorem pw_one (l : List Nat) : pw l 1 = l := by simp [pw]
theorem pw_len (l : List Nat) (m : Nat) : (pw l m).length = m * l.length := by simp [pw]
theorem pw_add (l : List Nat) (a b : Nat) : pw l (a + b) = pw l a ++ pw l b := by
  induction a with
  | zero => rw [Nat.zero_add, pw_zero, List.nil_append]
  | succ a ih => rw [Nat.add_right_comm, pw_succ, ih, pw_succ, List.append_assoc]
theorem pw_mul (l : List Nat) (a b : Nat) : pw (pw l a) b = pw l (a * b) := by
  induction b with
  | zero => rw [Nat.mul_zero, pw_zero, pw_zero]
  | succ b ih => rw [pw_succ, ih, Nat.mul_succ, Nat.add_comm, pw_add]
theorem pw_comm (l : List Nat) (a b : Nat) : pw l a ++ pw l b = pw l b ++ pw l a := by rw [← pw_add, ← pw_add, Nat.add_comm]
theorem pw_self (l : List Nat) (a : Nat) : l ++ pw l a = pw l a ++ l := by
  have := pw_comm l 1 a
  rwa [pw_one] at this
theorem pw_nil (m : Nat) : pw [] m = [] := List.eq_nil_of_length_eq_zero (by rw [pw_len]; rfl)
theorem comm_pw {u x : List Nat} (h : u ++ x = x ++ u) (n : Nat) : u ++ pw x n = pw x n ++ u := by
  induction n with
  | zero => simp [pw]
  | succ n ih => rw [pw_succ, ← List.append_assoc, h, List.append_assoc, ih, List.append_assoc]
theorem take_comm {u x : List Nat} (h : u ++ x = x ++ u) (n : Nat) (hn : u.length ≤ n * x.length) : u = (pw x n).take u.length := by
  have e := congrArg (List.take u.length) (comm_pw h n)
  rwa [List.take_left, List.take_append_of_le_length (by rw [pw_len]; exact hn)] at e
theorem comm_trans : ∀ (k : Nat) {u v x : List Nat}, u.length + v.length ≤ k → x ≠ [] → u ++ x = x ++ u → v ++ x = x ++ v → u ++ v = v ++ u := by
  intro k
  induction k with
  | zero =>
    intro u v x hk _ _ _
    have hu : u = [] := List.eq_nil_of_length_eq_zero (by omega)
    have hv : v = [] := List.eq_nil_of_length_eq_zero (by omega)
    rw [hu, hv]
  | succ k ih =>
    have half : ∀ {u v x : List Nat}, u.length + v.length ≤ k + 1 → x ≠ [] → u ++ x = x ++ u → v ++ x = x ++ v → u.length ≤ v.length → u ++ v = v ++ u := by
      intro u v x hk hx hu hv hl
      have xl : 1 ≤ x.length := List.length_pos_iff.mpr hx
      by_cases hu0 : u = []
      · rw [hu0, List.nil_append, List.append_nil]
      · have ul : 1 ≤ u.length := List.length_pos_iff.mpr hu0
        have hm : v.length ≤ v.length * x.length := Nat.le_mul_of_pos_right _ xl
        have e1 := take_comm hu v.length (by omega)
        have e2 := take_comm hv v.length hm
        have e3 : u = v.take u.length := by
          rw [e2, List.take_take, Nat.min_eq_left hl]
          exact e1
        obtain ⟨w, hw⟩ : ∃ w, v = u ++ w := ⟨v.drop u.length, by
          have q := (List.take_append_drop u.length v).symm
          rwa [← e3] at q⟩
        subst hw
        have hw' : w ++ x = x ++ w := by
          have := hv
          rw [← List.append_assoc, ← hu, List.append_assoc, List.append_assoc] at this
          exact List.append_cancel_left this
        have := ih (u := u) (v := w) (x := x) (by rw [List.length_append] at hk; omega) hx hu hw'
        rw [List.append_assoc, ← this]
    intro u v x hk hx hu hv
    by_cases hl : u.length ≤ v.length
    · exact half hk hx hu hv hl
    · exact (half (by omega) hx hv hu (by omega)).symm
theorem comm_root : ∀ (k : Nat) {u v : List Nat}, u.length + v.length ≤ k → u ++ v = v ++ u → ∃ r i j, u = pw r i ∧ v = pw r j := by
  intro k
  induction k with
  | zero =>
    intro u v hk _
    have hu : u = [] := List.eq_nil_of_length_eq_zero (by omega)
    have hv : v = [] := List.eq_nil_of_length_eq_zero (by omega)
    exact ⟨[], 0, 0, hu, hv⟩
  | succ k ih =>
    have half : ∀ {u v : List Nat}, u.length + v.length ≤ k + 1 → u ++ v = v ++ u → u.length ≤ v.length → ∃ r i j, u = pw r i ∧ v = pw r j := by
      intro u v hk h hl
      by_cases hu0 : u = []
      · exact ⟨v, 0, 1, hu0, (pw_one v).symm⟩
      · have ul : 1 ≤ u.length := List.length_pos_iff.mpr hu0
        have e := congrArg (List.take u.length) h
        rw [List.take_left, List.take_append_of_le_length hl] at e
        obtain ⟨w, hw⟩ : ∃ w, v = u ++ w := ⟨v.drop u.length, by
          have q := (List.take_append_drop u.length v).symm
          rwa [← e] at q⟩
        subst hw
        rw [List.append_assoc] at h
        have h' := List.append_cancel_left h
        obtain ⟨r, i, j, h1, h2⟩ := ih (u := u) (v := w) (by rw [List.length_append] at hk; omega) h'
        exact ⟨r, i, i + j, h1, by rw [pw_add, ← h1, ← h2]⟩
    intro u v hk h
    by_cases hl : u.length ≤ v.length
    · exact half hk h hl
    · obtain ⟨r, i, j, a, b⟩ := half (by omega) h.symm (by omega)
      exact ⟨r, j, i, b, a⟩
/-- no power of a shorter one -/
def Prim (r : List Nat) : Prop := r ≠ [] ∧ ∀ t m, r = pw t m → m = 1
structure Rt (l r : List Nat) : Prop where
  pr : Prim r
  ex : ∃ p, 1 ≤ p ∧ l = pw r p
theorem Prim.pos {r : List Nat} (h : Prim r) : 1 ≤ r.length := List.length_pos_iff.mpr h.1
theorem Prim.self {r : List Nat} (h : Prim r) : Rt r r := ⟨h, 1, Nat.le_refl 1, (pw_one r).symm⟩
theorem Prim.power {r : List Nat} (h : Prim r) {p : Nat} (hp : 1 ≤ p) : Rt (pw r p) r := ⟨h, p, hp, rfl⟩
theorem Rt.ne {l r : List Nat} (h : Rt l r) : l ≠ [] := by
  obtain ⟨p, hp, e⟩ := h.ex
  intro z
  have := congrArg List.length e
  rw [z, pw_len] at this
  have := Nat.mul_le_mul hp h.pr.pos
  simp at *
  omega
theorem Rt.comm {l r : List Nat} (h : Rt l r) : r ++ l = l ++ r := by
  obtain ⟨p, _, rfl⟩ := h.ex
  exact pw_self r p
/-- what commutes with a list is a power of its root -/
theorem Prim.of_comm {r u : List Nat} (h : Prim r) (c : r ++ u = u ++ r) : ∃ j, u = pw r j := by
  obtain ⟨q, i, j, e1, e2⟩ := comm_root _ (Nat.le_refl _) c
  have := h.2 q i e1
  subst this
  rw [pw_one] at e1
  exact ⟨j, by rw [e1]; exact e2⟩
theorem Prim.eq_of_comm {r s : List Nat} (hr : Prim r) (hs : Prim s) (c : r ++ s = s ++ r) : r = s := by
  obtain ⟨j, e⟩ := hr.of_comm c
  have := hs.2 r j e
  subst this
  rw [e, pw_one]
theorem Rt.comm_iff {l m r s : List Nat} (h1 : Rt l r) (h2 : Rt m s) : l ++ m = m ++ l ↔ r = s := by
  constructor
  · intro c
    have a : r ++ m = m ++ r := comm_trans _ (Nat.le_refl _) h1.ne h1.comm c.symm
    have b : r ++ s = s ++ r := comm_trans _ (Nat.le_refl _) h2.ne a h2.comm
    exact h1.pr.eq_of_comm h2.pr b
  · rintro rfl
    obtain ⟨p, _, rfl⟩ := h1.ex
    obtain ⟨q, _, rfl⟩ := h2.ex
    exact pw_comm r p q
theorem Rt.uniq {l r s : List Nat} (h1 : Rt l r) (h2 : Rt l s) : r = s := (h1.comm_iff h2).mp rfl
/-- the first so many of a list make all of it -/
def Goes (l : List Nat) (k : Nat) : Prop := pw (l.take k) (l.length / k) = l
theorem goes_all {l : List Nat} (h : l ≠ []) : Goes l l.length := by
  have := List.length_pos_iff.mpr h
  unfold Goes
  rw [List.take_length, Nat.div_self this, pw_one]
theorem goes_dvd {l : List Nat} {k : Nat} (hk : k ≤ l.length) (h : Goes l k) : l.length / k * k = l.length := by
  have := congrArg List.length h
  rwa [pw_len, List.length_take, Nat.min_eq_left hk] at this
theorem goes_pw {r : List Nat} {p : Nat} (h : 1 ≤ r.length) (hp : 1 ≤ p) : Goes (pw r p) r.length := by
  unfold Goes
  rw [pw_len, Nat.mul_div_cancel _ h]
  have e : (pw r p).take r.length = r := by
    obtain ⟨q, rfl⟩ : ∃ q, p = q + 1 := ⟨p - 1, by omega⟩
    rw [pw_succ, List.take_left]
  rw [e]
/-- the least one tells the root -/
theorem rt_least {l : List Nat} {k : Nat} (h1 : 1 ≤ k) (hk : k ≤ l.length) (h : Goes l k) (hl : ∀ j, 1 ≤ j → j < k → ¬ Goes l j) : Rt l (l.take k) := by
  have tl : (l.take k).length = k := by rw [List.length_take, Nat.min_eq_left hk]
  have dv := goes_dvd hk h
  have p1 : 1 ≤ l.length / k := Nat.div_pos hk h1
  refine ⟨⟨fun z => by rw [z] at tl; simp at tl; omega, fun t m e => ?_⟩, l.length / k, p1, h.symm⟩
  have el := congrArg List.length e
  rw [tl, pw_len] at el
  have hm : m ≠ 0 := fun z => by subst z; omega
  have ht : t.length ≠ 0 := fun z => by rw [z] at el; omega
  have el2 : l = pw t (m * (l.length / k)) := by
    rw [← pw_mul, ← e]
    exact h.symm
  have q1 : 1 ≤ m * (l.length / k) := Nat.mul_le_mul (Nat.one_le_iff_ne_zero.mpr hm) p1
  have g : Goes l t.length := by
    have := goes_pw (r := t) (p := m * (l.length / k)) (by omega) q1
    rwa [← el2] at this
  have : k ≤ t.length := Nat.le_of_not_lt fun z => hl _ (by omega) z g
  rcases Nat.lt_or_ge 1 m with z | z
  · have := Nat.mul_le_mul z this
    omega
  · omega
theorem Rt.goes {l r : List Nat} (h : Rt l r) : Goes l r.length ∧ l.take r.length = r ∧ l.length / r.length * r.length = l.length ∧ 1 ≤ r.length ∧ r.length ≤ l.length := by
  obtain ⟨p, hp, e⟩ := h.ex
  have h1 := h.pr.pos
  have g : Goes l r.length := by rw [e]; exact goes_pw h1 hp
  have e' : l.take r.length = r := by
    obtain ⟨q, rfl⟩ : ∃ q, p = q + 1 := ⟨p - 1, by omega⟩
    rw [e, pw_succ, List.take_left]
  have hl : r.length ≤ l.length := by
    rw [e, pw_len]
    exact Nat.le_mul_of_pos_left _ hp
  exact ⟨g, e', goes_dvd hl g, h1, hl⟩
theorem rt_exists {l : List Nat} (h : l ≠ []) : ∃ r, Rt l r := by
  have key : ∀ d k, 1 ≤ k → k + d = l.length + 1 → (∀ j, 1 ≤ j → j < k → ¬ Goes l j) → ∃ r, Rt l r := by
    intro d
    induction d with
    | zero =>
      intro k h1 hk hl
      have : 1 ≤ l.length := List.length_pos_iff.mpr h
      exact absurd (goes_all h) (hl _ this (by omega))
    | succ d ih =>
      intro k h1 hk hl
      by_cases g : Goes l k
      · exact ⟨_, rt_least h1 (by omega) g hl⟩
      · exact ih (k + 1) (by omega) (by omega) fun j j1 j2 => by
          by_cases e : j = k
          · subst e; exact g
          · exact hl j j1 (by omega)
  exact key l.length 1 (Nat.le_refl _) (by omega) fun j a b => by omega
/-! turned about -/
theorem pw_turn (a b : List Nat) (n : Nat) : b ++ pw (a ++ b) n ++ a = pw (b ++ a) (n + 1) := by
  induction n with
  | zero => simp [pw]
  | succ n ih =>
    rw [pw_succ, pw_succ (b ++ a), ← ih]
    simp only [List.append_assoc]
def rot (c : Nat) (l : List Nat) : List Nat := l.drop c ++ l.take c
theorem rot_pw {r : List Nat} {p c : Nat} (h : c < p * r.length) : rot c (pw r p) = pw (rot (c % r.length) r) p := by
  have rl : 0 < r.length := by
    rcases Nat.eq_zero_or_pos r.length with z | z
    · rw [z] at h; omega
    · exact z
  have hq : c / r.length < p := (Nat.div_lt_iff_lt_mul rl).mpr h
  have hm := Nat.mod_lt c rl
  have hc := Nat.div_add_mod c r.length
  obtain ⟨d, hd⟩ : ∃ d, p = c / r.length + (1 + d) := ⟨p - c / r.length - 1, by omega⟩
  have e0 : pw r p = pw r (c / r.length) ++ (r ++ pw r d) := by rw [hd, pw_add, pw_add, pw_one]
  have lq : (pw r (c / r.length)).length = r.length * (c / r.length) := by rw [pw_len, Nat.mul_comm]
  generalize hM : c % r.length = m at *
  have e1 : r = r.take m ++ r.drop m := (List.take_append_drop m r).symm
  have ea : (pw r p).drop c = r.drop m ++ pw r d := by
    rw [e0, List.drop_append, lq, List.drop_eq_nil_of_le (by rw [lq]; omega), List.nil_append, show c - r.length * (c / r.length) = m by omega, List.drop_append_of_le_length (by omega)]
  have eb : (pw r p).take c = pw r (c / r.length) ++ r.take m := by
    rw [e0, List.take_append, lq, List.take_of_length_le (by rw [lq]; omega), show c - r.length * (c / r.length) = m by omega, List.take_append_of_le_length (by omega)]
  unfold rot
  rw [ea, eb]
  have e2 : r.drop m ++ pw r d ++ (pw r (c / r.length) ++ r.take m) = r.drop m ++ pw (r.take m ++ r.drop m) (d + c / r.length) ++ r.take m := by
    rw [← e1, pw_add]
    simp only [List.append_assoc]
  rw [e2, pw_turn]
  congr 1
  omega
theorem rot_rot (c : Nat) (l : List Nat) (h : c ≤ l.length) : rot (l.length - c) (rot c l) = l := by
  unfold rot
  have lx : (l.drop c).length = l.length - c := List.length_drop
  rw [← lx, List.drop_left, List.take_left, List.take_append_drop]
theorem rot_len (c : Nat) (l : List Nat) (h : c ≤ l.length) : (rot c l).length = l.length := by
  unfold rot
  rw [List.length_append, List.length_drop, List.length_take]
  omega
theorem Prim.rot {r : List Nat} (h : Prim r) {c : Nat} (hc : c < r.length) : Prim (rot c r) := by
  refine ⟨fun z => ?_, fun t m e => ?_⟩
  · have := rot_len c r (by omega)
    rw [z] at this
    simp at this
    omega
  · by_cases hc0 : c = 0
    · subst hc0
      rw [show WH.rot 0 r = r by simp [WH.rot]] at e
      exact h.2 t m e
    · have l1 := rot_len c r (by omega)
      have e1 := rot_rot c r (by omega)
      rw [e, rot_pw (by rw [← pw_len, ← e, l1]; omega)] at e1
      exact h.2 _ m e1.symm
theorem Rt.rot {l r : List Nat} (h : Rt l r) {c : Nat} (hc : c < l.length) : Rt (rot c l) (rot (c % r.length) r) := by
  obtain ⟨p, hp, rfl⟩ := h.ex
  rw [pw_len] at hc
  rw [rot_pw hc]
  exact (h.pr.rot (Nat.mod_lt _ h.pr.pos)).power hp
theorem pw_rev (l : List Nat) (m : Nat) : (pw l m).reverse = pw l.reverse m := by
  induction m with
  | zero => rfl
  | succ m ih => rw [pw_succ, List.reverse_append, ih, pw_succ, pw_self]
theorem Prim.rev {r : List Nat} (h : Prim r) : Prim r.reverse := ⟨fun z => h.1 (by simpa using z), fun t m e => h.2 t.reverse m (by rw [← pw_rev, ← e, List.reverse_reverse])⟩
theorem Rt.rev {l r : List Nat} (h : Rt l r) : Rt l.reverse r.reverse := by
  obtain ⟨p, hp, rfl⟩ := h.ex
  rw [pw_rev]
  exact h.pr.rev.power hp
end WH
namespace WH
open PySem PySem.Spec PyProof.Rows L2
open Enc (enc)
open EncL (encl)
/-! ### data that repr and == are asked of -/
structure Sm (d : PyData) (dp wt : Nat) : Prop where
  sh : d.showable = true
  nd : d.hasDict = false
  dp : d.depth ≤ dp
  ls : d.leavesShort 2000 = true
  wt : d.weight ≤ wt
  cl : d.canLay0 = true
structure SmA (ds : List PyData) (dp wt : Nat) : Prop where
  sh : PyData.showableAll ds = true
  nd : PyData.hasDictAll ds = false
  dp : PyData.depthAll ds ≤ dp
  ls : PyData.leavesShortAll 2000 ds = true
  wt : PyData.weightAll ds ≤ wt
  cl : PyData.canLayAll0 ds = true
theorem log_small {n : Int} {b : Nat} (h : n.natAbs < 2 ^ b) (hb : 0 < b) : n.natAbs.log2 < b := PySem.Flt.log2_lt_of hb h
theorem int_short {n : Int} (h : n.natAbs < 2 ^ 200) : PyData.leavesShort 2000 (.int n) = true := by
  have h1 := log_small h (by decide)
  simp only [PyData.leavesShort, PyData.shown]
  apply decide_eq_true
  have := int_text_length_le (a := n) (k := 200) (by decide) h1
  show (Str.ofString (toString n)).length ≤ 2000
  rw [PySem.ofString_length]
  omega
theorem Sm.int {n : Int} (h : n.natAbs < 2 ^ 200) : Sm (.int n) 0 200 := by
  have l := log_small h (by decide)
  refine ⟨?_, by simp [PyData.hasDict], by simp [PyData.depth], int_short h, ?_, by simp [PyData.canLay0]⟩
  · simp only [PyData.showable]
    exact decide_eq_true (by omega)
  · simp only [PyData.weight]
    split <;> omega
theorem Sm.bool (b : Bool) : Sm (.bool b) 0 0 := by
  refine ⟨by simp [PyData.showable], by simp [PyData.hasDict], by simp [PyData.depth], ?_, by simp [PyData.weight], by simp [PyData.canLay0]⟩
  cases b <;> decide +kernel
theorem Sm.str {x : Str} (h : PyData.strOk x = true) {m : Nat} (hm : x.length ≤ m) : Sm (.str x) 0 m :=
  ⟨by simp [PyData.showable], by simp [PyData.hasDict], by simp [PyData.depth], short_str h, by simp only [PyData.weight]; exact hm, by simp only [PyData.canLay0]; exact h⟩
theorem SmA.nil : SmA [] 0 0 := ⟨by simp [PyData.showableAll], by simp [PyData.hasDictAll], by simp [PyData.depthAll], by simp [PyData.leavesShortAll], by simp [PyData.weightAll], by simp [PyData.canLayAll0]⟩
theorem SmA.cons {d : PyData} {ds : List PyData} {dp wt w2 : Nat} (h : Sm d dp wt) (hs : SmA ds dp w2) : SmA (d :: ds) dp (wt + 1 + w2) := by
  obtain ⟨a1, a2, a3, a4, a5, a6⟩ := h
  obtain ⟨b1, b2, b3, b4, b5, b6⟩ := hs
  refine ⟨?_, ?_, ?_, ?_, ?_, ?_⟩
  · simp only [PyData.showableAll, a1, b1, Bool.and_self]
  · simp only [PyData.hasDictAll, a2, b2, Bool.or_self]
  · simp only [PyData.depthAll]
    omega
  · simp only [PyData.leavesShortAll, a4, b4, Bool.and_self]
  · simp only [PyData.weightAll]
    omega
  · simp only [PyData.canLayAll0, a6, b6, Bool.and_self]
theorem SmA.mono {ds : List PyData} {dp wt dp' wt' : Nat} (h : SmA ds dp wt) (h1 : dp ≤ dp') (h2 : wt ≤ wt') : SmA ds dp' wt' := ⟨h.sh, h.nd, Nat.le_trans h.dp h1, h.ls, Nat.le_trans h.wt h2, h.cl⟩
theorem Sm.mono {d : PyData} {dp wt dp' wt' : Nat} (h : Sm d dp wt) (h1 : dp ≤ dp') (h2 : wt ≤ wt') : Sm d dp' wt' := ⟨h.sh, h.nd, Nat.le_trans h.dp h1, h.ls, Nat.le_trans h.wt h2, h.cl⟩
theorem Sm.list {ds : List PyData} {dp wt : Nat} (h : SmA ds dp wt) : Sm (.list ds) (dp + 1) wt := by
  obtain ⟨b1, b2, b3, b4, b5, b6⟩ := h
  refine ⟨by simp only [PyData.showable, b1], by simp only [PyData.hasDict, b2], ?_, by simp only [PyData.leavesShort, b4], by simp only [PyData.weight]; exact b5, by simp only [PyData.canLay0, b6]⟩
  simp only [PyData.depth]
  omega
theorem SmA.all {ds : List PyData} {dp wt : Nat} (h : ∀ d ∈ ds, Sm d dp wt) : SmA ds dp ((wt + 1) * ds.length) := by
  induction ds with
  | nil => exact SmA.nil.mono (Nat.zero_le _) (Nat.zero_le _)
  | cons d ds ih =>
    refine (SmA.cons (h d List.mem_cons_self) (ih fun x hx => h x (List.mem_cons_of_mem _ hx))).mono (Nat.le_refl _) ?_
    rw [List.length_cons, Nat.mul_add]
    omega
theorem Sm.two {d : PyData} {dp wt : Nat} (h : Sm d dp wt) : Sm (.list [d, d]) (dp + 1) (2 * wt + 2) :=
  (Sm.list (SmA.cons h (SmA.cons h (SmA.nil.mono (Nat.zero_le dp) (Nat.le_refl 0))))).mono (Nat.le_refl _) (by omega)
/-- what repr asks of its argument -/
theorem Sm.tuple {ds : List PyData} {dp wt : Nat} (h : SmA ds dp wt) : Sm (.tuple ds) (dp + 1) wt := by
  obtain ⟨b1, b2, b3, b4, b5, b6⟩ := h
  refine ⟨by simp only [PyData.showable, b1], by simp only [PyData.hasDict, b2], ?_, by simp only [PyData.leavesShort, b4], by simp only [PyData.weight]; exact b5, by simp only [PyData.canLay0, b6]⟩
  simp only [PyData.depth]
  omega
theorem Sm.none0 : Sm .none 0 0 := ⟨by simp [PyData.showable], by simp [PyData.hasDict], by simp [PyData.depth], by decide +kernel, by simp [PyData.weight], by simp [PyData.canLay0]⟩
/-! ### data that can be shown -/
structure ShD (d : Dt) (dp wt : Nat) : Prop where
  nk : noStk d = true
  sm : Sm (toPy d) dp wt
structure ShL (ds : List Dt) (dp wt : Nat) : Prop where
  nk : noStkL ds = true
  sm : SmA (toPyL ds) dp wt
theorem ShD.mono {d : Dt} {dp wt dp' wt' : Nat} (h : ShD d dp wt) (h1 : dp ≤ dp') (h2 : wt ≤ wt') : ShD d dp' wt' := ⟨h.nk, h.sm.mono h1 h2⟩
theorem ShD.int {n : Int} (h : n.natAbs < 2 ^ 200) : ShD (enc n) 0 200 := ⟨rfl, Sm.int h⟩
theorem ShD.bool (b : Bool) : ShD (enc b) 0 0 := ⟨rfl, Sm.bool b⟩
theorem ShD.non : ShD (enc ()) 0 0 := ⟨rfl, Sm.none0⟩
theorem ShD.str {x : Str} (h : PyData.strOk x = true) {m : Nat} (hm : x.length ≤ m) : ShD (enc x) 0 m := ⟨rfl, Sm.str h hm⟩
theorem ShL.nil {dp : Nat} : ShL [] dp 0 := ⟨rfl, SmA.nil.mono (Nat.zero_le _) (Nat.le_refl _)⟩
theorem ShL.cons {d : Dt} {ds : List Dt} {dp wt w2 : Nat} (h : ShD d dp wt) (hs : ShL ds dp w2) : ShL (d :: ds) dp (wt + 1 + w2) :=
  ⟨by simp only [noStkL, h.nk, hs.nk, Bool.and_self], SmA.cons h.sm hs.sm⟩
theorem ShL.all {ds : List Dt} {dp wt : Nat} (h : ∀ d ∈ ds, ShD d dp wt) : ShL ds dp ((wt + 1) * ds.length) := by
  induction ds with
  | nil => exact ShL.nil
  | cons d ds ih =>
    have := ShL.cons (h d List.mem_cons_self) (ih fun x hx => h x (List.mem_cons_of_mem _ hx))
    rw [List.length_cons, Nat.mul_add, Nat.mul_one, Nat.add_comm _ (wt + 1)]
    exact this
theorem ShL.lst {ds : List Dt} {dp wt : Nat} (h : ShL ds dp wt) : ShD (.lst ds) (dp + 1) wt := ⟨by simp only [noStk, h.nk], by simp only [toPy]; exact Sm.list h.sm⟩
theorem ShL.tup {ds : List Dt} {dp wt : Nat} (h : ShL ds dp wt) : ShD (.tup ds) (dp + 1) wt := ⟨by simp only [noStk, h.nk], by simp only [toPy]; exact Sm.tuple h.sm⟩
theorem ShD.list {α : Type} [Enc α] {l : List α} {dp wt : Nat} (h : ∀ a ∈ l, ShD (enc a) dp wt) : ShD (enc l) (dp + 1) ((wt + 1) * l.length) := by
  have := ShL.lst (ShL.all (ds := l.map enc) (dp := dp) (wt := wt) fun d hd => by
    obtain ⟨a, ha, rfl⟩ := List.mem_map.mp hd
    exact h a ha)
  rwa [List.length_map] at this
theorem ShD.pair {α β : Type} [Enc α] [Enc β] {p : α × β} {dp w1 w2 : Nat} (h1 : ShD (enc p.1) dp w1) (h2 : ShD (enc p.2) dp w2) : ShD (enc p) (dp + 1) (w1 + w2 + 2) := by
  have := ShL.tup (ShL.cons h1 (ShL.cons h2 ShL.nil))
  exact this.mono (Nat.le_refl _) (by omega)
theorem ShD.listOk {α : Type} [Enc α] {l : List α} {dp wt : Nat} (h : ShD (enc l) dp wt) (h1 : dp ≤ 60) (h2 : wt ≤ 8000) : shOk (enc l) :=
  ⟨h.nk, h.sm.sh, h.sm.nd, Nat.le_trans h.sm.dp h1, fits2 h.sm.ls (Nat.le_trans h.sm.wt h2)⟩
theorem ShD.tupOk {α β : Type} [Enc α] [Enc β] {l : α × β} {dp wt : Nat} (h : ShD (enc l) dp wt) (h1 : dp ≤ 60) (h2 : wt ≤ 8000) : shOk (enc l) :=
  ⟨h.nk, h.sm.sh, h.sm.nd, Nat.le_trans h.sm.dp h1, fits2 h.sm.ls (Nat.le_trans h.sm.wt h2)⟩
end WH
namespace WH
open PySem PySem.Spec PyProof.Rows L2
open Enc (enc)
open EncL (encl)
instance {α β γ : Type} [Enc α] [Enc β] [Enc γ] [EqOk α] [EqOk β] [EqOk γ] : EqOk (T3 α β γ) := ⟨fun p => by
  show PyData.eqv (toPy (.tup [enc p.a, enc p.b, enc p.c])) (toPy (.tup [enc p.a, enc p.b, enc p.c])) = true
  simp only [toPy, PyData.eqv]
  exact eqL_refl fun d hd => by
    simp only [List.mem_cons, List.not_mem_nil, or_false] at hd
    rcases hd with rfl | rfl | rfl
    · exact EqOk.refl _
    · exact EqOk.refl _
    · exact EqOk.refl _, fun a b h => by
  have h : PyData.eqv (toPy (.tup [enc a.a, enc a.b, enc a.c])) (toPy (.tup [enc b.a, enc b.b, enc b.c])) = true := h
  simp only [toPy, PyData.eqv, toPyL, PyData.eqvAll, Bool.and_eq_true] at h
  obtain ⟨a1, a2, a3⟩ := a
  obtain ⟨b1, b2, b3⟩ := b
  have e1 : a1 = b1 := EqOk.eq _ _ h.1
  have e2 : a2 = b2 := EqOk.eq _ _ h.2.1
  have e3 : a3 = b3 := EqOk.eq _ _ h.2.2.1
  rw [e1, e2, e3]⟩
theorem eqR {α : Type} [Enc α] [EqOk α] (a : α) : eqD (enc a) (enc a) = true := EqOk.refl a
theorem take_cut {α : Type} {xs : List α} {k : Nat} : cutL xs none (some (k : Int)) = xs.take k := by
  unfold cutL
  rw [HT.sIx_none, HT.sIx_nat, List.drop_zero, Nat.sub_zero]
  rcases Nat.le_total k xs.length with h | h
  · rw [Nat.min_eq_left h]
  · rw [Nat.min_eq_right h, List.take_length, List.take_of_length_le h]
theorem atI_last {α : Type} {l : List α} {k : Nat} {a : α} (hl : l.length = k + 1) (h : l[k]? = some a) : atI l (-1) = some a := by
  unfold atI ixN
  rw [if_neg (by omega), if_pos (by omega)]
  show l[_]? = some a
  rw [← h]
  congr 1
  omega
end WH
namespace WH
open PySem PySem.Spec PyProof.Rows L2
open Enc (enc)
open EncL (encl)
/-! ### long data that can be shown, of texts and small numbers -/
theorem shOkBig {α : Type} [Enc α] {l : List α} {dp wt : Nat} (h : ShD (enc l) dp wt) (hi : PyData.intsShort 13 (toPy (enc l)) = true) (h1 : dp ≤ 60) (h2 : wt ≤ 1000000) : shOk (enc l) := by
  refine ⟨h.nk, h.sm.sh, h.sm.nd, Nat.le_trans h.sm.dp h1, ?_⟩
  have h3 := PyData.shown_le 13 (by decide) _ (PyData.leavesShort_of_canLay0 13 _ h.sm.cl hi)
  have h4 := h.sm.wt
  have h5 : (13 + 2) * (toPy (enc l)).weight ≤ 15 * 1000000 := Nat.mul_le_mul_left 15 (Nat.le_trans h4 h2)
  rw [sizeLine_eq]
  omega
theorem ShD.tri {α β γ : Type} [Enc α] [Enc β] [Enc γ] {p : T3 α β γ} {dp w1 w2 w3 : Nat} (h1 : ShD (enc p.a) dp w1) (h2 : ShD (enc p.b) dp w2) (h3 : ShD (enc p.c) dp w3) : ShD (enc p) (dp + 1) (w1 + w2 + w3 + 3) := by
  have := ShL.tup (ShL.cons h1 (ShL.cons h2 (ShL.cons h3 ShL.nil)))
  exact this.mono (Nat.le_refl _) (by omega)
theorem shortL {α : Type} [Enc α] {l : List α} (h : ∀ a ∈ l, PyData.intsShort 13 (toPy (enc a)) = true) : PyData.intsShort 13 (toPy (enc l)) = true := by
  have e : toPy (enc l) = .list (toPyL (l.map enc)) := by
    show toPy (.lst (l.map enc)) = _
    simp only [toPy]
  rw [e, toPyL_map]
  simp only [PyData.intsShort]
  exact intsShortAll_of fun x hx => by
    obtain ⟨d, hd, rfl⟩ := List.mem_map.mp hx
    obtain ⟨a, ha, rfl⟩ := List.mem_map.mp hd
    exact h a ha
theorem shortS3 (p : T3 Str Str Str) : PyData.intsShort 13 (toPy (enc p)) = true := by
  show PyData.intsShort 13 (toPy (.tup [.str p.a, .str p.b, .str p.c])) = true
  simp [toPy, toPyL, PyData.intsShort, PyData.intsShortAll]
end WH
namespace WH
/-! ### a set that is not read in one way has more words than its hull -/
theorem ndLen {α : Type} [DecidableEq α] : ∀ {l m : List α}, l.Nodup → (∀ x ∈ l, x ∈ m) → l.length ≤ m.length
  | [], m, _, _ => Nat.zero_le _
  | x :: l, m, h, s => by
    obtain ⟨h1, h2⟩ := List.nodup_cons.mp h
    have := ndLen (m := m.erase x) h2 fun y hy => (List.mem_erase_of_ne fun e => h1 (by rw [← e]; exact hy)).mpr (s y (List.mem_cons_of_mem _ hy))
    have hx := s x List.mem_cons_self
    rw [List.length_erase_of_mem hx] at this
    have := List.length_pos_of_mem hx
    rw [List.length_cons]
    omega
section
variable {Y : List Nat → Prop} {y0 : List Nat}
/-- a word that is not y0, and y0 so many times -/
def Blk (Y : List Nat → Prop) (y0 : List Nat) (t : List Nat) : Prop := ∃ y k, Y y ∧ y ≠ y0 ∧ t = y ++ pw y0 k
def gB (y0 : List Nat) (p : List Nat × Nat) : List Nat := p.1 ++ pw y0 p.2
def eB (y0 : List Nat) (us : List (List Nat × Nat)) : List (List Nat) := us.flatMap fun p => p.1 :: List.replicate p.2 y0
theorem eB_flat (us : List (List Nat × Nat)) : (eB y0 us).flatten = (us.map (gB y0)).flatten := by
  induction us with
  | nil => rfl
  | cons p us ih =>
    unfold eB at ih ⊢
    rw [List.flatMap_cons, List.flatten_append, ih, List.flatten_cons, List.map_cons, List.flatten_cons]
    rfl
theorem eB_row (hy0 : Y y0) {us : List (List Nat × Nat)} (h : ∀ p ∈ us, Y p.1) : Row Y (eB y0 us) := fun x hx => by
  obtain ⟨p, hp, hx⟩ := List.mem_flatMap.mp hx
  rcases List.mem_cons.mp hx with rfl | hx
  · exact h p hp
  · rw [List.eq_of_mem_replicate hx]
    exact hy0
theorem rep_split : ∀ {k m : Nat} {p q : List (List Nat)}, (∀ a r, p = a :: r → a ≠ y0) → (∀ a r, q = a :: r → a ≠ y0) → List.replicate k y0 ++ p = List.replicate m y0 ++ q → k = m ∧ p = q
  | 0, 0, _, _, _, _, e => ⟨rfl, e⟩
  | 0, m + 1, p, q, hp, _, e => by
    rw [List.replicate_succ, List.cons_append] at e
    exact absurd rfl (hp _ _ e)
  | k + 1, 0, p, q, _, hq, e => by
    rw [List.replicate_succ, List.cons_append] at e
    exact absurd rfl (hq _ _ e.symm)
  | k + 1, m + 1, p, q, hp, hq, e => by
    rw [List.replicate_succ, List.replicate_succ, List.cons_append, List.cons_append] at e
    obtain ⟨e1, e2⟩ := rep_split hp hq (List.cons.inj e).2
    exact ⟨by omega, e2⟩
theorem eB_head {us : List (List Nat × Nat)} (h : ∀ p ∈ us, p.1 ≠ y0) : ∀ a r, eB y0 us = a :: r → a ≠ y0 := by
  intro a r e
  cases us with
  | nil => cases e
  | cons p us =>
    unfold eB at e
    rw [List.flatMap_cons, List.cons_append] at e
    rw [← (List.cons.inj e).1]
    exact h p List.mem_cons_self
theorem eB_inj : ∀ {us vs : List (List Nat × Nat)}, (∀ p ∈ us, p.1 ≠ y0) → (∀ p ∈ vs, p.1 ≠ y0) → eB y0 us = eB y0 vs → us = vs
  | [], [], _, _, _ => rfl
  | [], q :: vs, _, _, e => by
    unfold eB at e
    rw [List.flatMap_cons, List.cons_append] at e
    cases e
  | p :: us, [], _, _, e => by
    unfold eB at e
    rw [List.flatMap_cons, List.cons_append] at e
    cases e
  | p :: us, q :: vs, hu, hv, e => by
    have hu' : ∀ p ∈ us, p.1 ≠ y0 := fun x hx => hu x (List.mem_cons_of_mem _ hx)
    have hv' : ∀ p ∈ vs, p.1 ≠ y0 := fun x hx => hv x (List.mem_cons_of_mem _ hx)
    unfold eB at e
    rw [List.flatMap_cons, List.flatMap_cons, List.cons_append, List.cons_append] at e
    obtain ⟨e1, e2⟩ := List.cons.inj e
    obtain ⟨e3, e4⟩ := rep_split (eB_head hu') (eB_head hv') e2
    rw [eB_inj hu' hv' e4, Prod.ext e1 e3]
theorem blk_row : ∀ {u : List (List Nat)}, Row (Blk Y y0) u → ∃ us : List (List Nat × Nat), (∀ p ∈ us, Y p.1 ∧ p.1 ≠ y0) ∧ u = us.map (gB y0)
  | [], _ => ⟨[], fun p hp => by simp at hp, rfl⟩
  | t :: u, h => by
    obtain ⟨us, h1, h2⟩ := blk_row h.tail
    obtain ⟨y, k, a, b, c⟩ := h.head
    refine ⟨(y, k) :: us, fun p hp => ?_, by rw [List.map_cons, ← h2, c]; rfl⟩
    rcases List.mem_cons.mp hp with rfl | hp
    · exact ⟨a, b⟩
    · exact h1 p hp
theorem blk_free (F : Free Y) (hy0 : Y y0) : Free (Blk Y y0) := by
  refine ⟨?_, fun u v hu hv e => ?_⟩
  · rintro t ⟨y, k, a, b, rfl⟩ z
    exact F.ne y a (List.append_eq_nil_iff.mp z).1
  · obtain ⟨us, u1, rfl⟩ := blk_row hu
    obtain ⟨vs, v1, rfl⟩ := blk_row hv
    rw [← eB_flat, ← eB_flat] at e
    have := F.un _ _ (eB_row hy0 fun p hp => (u1 p hp).1) (eB_row hy0 fun p hp => (v1 p hp).1) e
    rw [eB_inj (fun p hp => (u1 p hp).2) (fun p hp => (v1 p hp).2) this]
theorem blk_made : ∀ (r : List (List Nat)) (y : List Nat) (k : Nat), Row Y r → Y y → y ≠ y0 → Made (Blk Y y0) (y ++ pw y0 k ++ r.flatten)
  | [], y, k, _, hy, ne => by
    rw [List.flatten_nil, List.append_nil]
    exact .one ⟨y, k, hy, ne, rfl⟩
  | z :: r, y, k, hr, hy, ne => by
    by_cases c : z = y0
    · have := blk_made r y (k + 1) hr.tail hy ne
      rw [pw_add, pw_one] at this
      rw [List.flatten_cons, c]
      simpa [List.append_assoc] using this
    · have := blk_made r z 0 hr.tail hr.head c
      rw [pw_zero, List.append_nil] at this
      rw [List.flatten_cons]
      exact .app ⟨y, k, hy, ne, rfl⟩ this
theorem blk_not (F : Free Y) (hy0 : Y y0) : ¬ Made (Blk Y y0) y0 := fun h => by
  obtain ⟨u, u1, u2⟩ := made_row h
  obtain ⟨us, v1, rfl⟩ := blk_row u1
  rw [← eB_flat] at u2
  have e := F.un (eB y0 us) [y0] (eB_row hy0 fun p hp => (v1 p hp).1) (Row.cons hy0 Row.nil) (by rw [u2]; simp)
  exact eB_head (fun p hp => (v1 p hp).2) _ _ e rfl
end
theorem defect {xs ys : List (List Nat)} (ne : ∀ x ∈ xs, x ≠ []) (c : CutF Free (fun t => t ∈ xs) (fun t => t ∈ ys)) (F : Free (fun t => t ∈ ys)) (nd : ys.Nodup) (nf : ¬ Free (fun t => t ∈ xs)) : ys.length < xs.length := by
  classical
  have first : ∀ x ∈ xs, ∃ y r, Row (fun t => t ∈ ys) (y :: r) ∧ (y :: r).flatten = x := fun x hx => by
    obtain ⟨u, u1, u2⟩ := made_row (c.up x hx)
    match u, u1, u2 with
    | [], _, u2 => exact absurd u2.symm (ne x hx)
    | y :: r, u1, u2 => exact ⟨y, r, u1, u2⟩
  have ch : ∃ f : List Nat → List Nat, ∀ x ∈ xs, ∃ r, Row (fun t => t ∈ ys) (f x :: r) ∧ (f x :: r).flatten = x := by
    refine ⟨fun x => if h : x ∈ xs then Classical.choose (first x h) else x, fun x hx => ?_⟩
    dsimp only
    rw [dif_pos hx]
    exact Classical.choose_spec (first x hx)
  obtain ⟨f, hf⟩ := ch
  have sur : ∀ y ∈ ys, ∃ x ∈ xs, f x = y := fun y0 hy0 => Classical.byContradiction fun no => by
    refine blk_not F hy0 (c.dn _ (blk_free F hy0) (fun x hx => ?_) y0 hy0)
    obtain ⟨r, r1, r2⟩ := hf x hx
    have := blk_made r (f x) 0 r1.tail r1.head fun e => no ⟨x, hx, e⟩
    rw [pw_zero, List.append_nil] at this
    rw [← r2]
    exact this
  obtain ⟨T, hT⟩ : ∃ T, Conf (fun t => t ∈ xs) T := Classical.byContradiction fun no => nf (Free.of ne fun T h => no ⟨T, h⟩)
  obtain ⟨x, x', a, b, hx, hx', xne, ha, hb, e1, e2⟩ := hT
  obtain ⟨r, r1, r2⟩ := hf x hx
  obtain ⟨r', r1', r2'⟩ := hf x' hx'
  obtain ⟨ra, a1, a2⟩ := made_row ((row_made ha).sub c.up)
  obtain ⟨rb, b1, b2⟩ := made_row ((row_made hb).sub c.up)
  have same := F.un ((f x :: r) ++ ra) ((f x' :: r') ++ rb) (r1.app a1) (r1'.app b1) (by rw [List.flatten_append, List.flatten_append, r2, r2', a2, b2, e1, e2])
  have fe : f x = f x' := by
    rw [List.cons_append, List.cons_append] at same
    exact (List.cons.inj same).1
  have sub : ∀ y ∈ ys, y ∈ (xs.erase x').map f := fun y hy => by
    obtain ⟨z, hz, rfl⟩ := sur y hy
    by_cases q : z = x'
    · rw [q, ← fe]
      exact List.mem_map.mpr ⟨x, (List.mem_erase_of_ne xne).mpr hx, rfl⟩
    · exact List.mem_map.mpr ⟨z, (List.mem_erase_of_ne q).mpr hz, rfl⟩
  have l := ndLen nd sub
  rw [List.length_map, List.length_erase_of_mem hx'] at l
  have := List.length_pos_of_mem hx'
  omega
end WH
namespace WH
/-! ### how many texts: the mathematics of counting by ends -/
def fE (N : Nat → Nat) (L : Nat) (e : List Nat) : Nat := if e.length ≤ L then N (L - e.length) else 0
def CE (N : Nat → Nat) (E : List (List Nat)) (L : Nat) : Nat := (E.map (fE N L)).sum
def beh (W E : List (List Nat)) : List (List Nat) := E ++ if [] ∈ E then W else []
def stE (W E : List (List Nat)) (c : Nat) : List (List Nat) := ((beh W E).filter fun e => e.head? == some c).map List.tail
theorem sum_add {α : Type} (f g : α → Nat) : ∀ l : List α, (l.map fun a => f a + g a).sum = (l.map f).sum + (l.map g).sum
  | [] => rfl
  | a :: l => by
    simp only [List.map_cons, List.sum_cons, sum_add f g l]
    omega
theorem sum_zero {α : Type} {f : α → Nat} : ∀ {l : List α}, (∀ a ∈ l, f a = 0) → (l.map f).sum = 0
  | [], _ => rfl
  | a :: l, h => by
    rw [List.map_cons, List.sum_cons, h a List.mem_cons_self, sum_zero fun b hb => h b (List.mem_cons_of_mem _ hb)]
theorem sum_one (c0 v : Nat) : ∀ {l : List Nat}, l.Nodup → c0 ∈ l → (l.map fun c => if c0 = c then v else 0).sum = v
  | a :: l, nd, h => by
    obtain ⟨n1, n2⟩ := List.nodup_cons.mp nd
    rw [List.map_cons, List.sum_cons]
    by_cases e : c0 = a
    · subst e
      rw [if_pos rfl, sum_zero fun b hb => if_neg fun (z : c0 = b) => n1 (by rw [z]; exact hb)]
      rfl
    · rw [if_neg e, sum_one c0 v n2 ((List.mem_cons.mp h).resolve_left e)]
      omega
/-- by the first letter -/
theorem sum_heads (g : List Nat → Nat) {ls : List Nat} (nd : ls.Nodup) : ∀ {l : List (List Nat)}, (∀ e ∈ l, ∀ c t, e = c :: t → c ∈ ls) →
    (ls.map fun c => ((l.filter fun e => e.head? == some c).map fun e => g e.tail).sum).sum = ((l.filter fun e => e != []).map fun e => g e.tail).sum
  | [], _ => sum_zero fun c _ => rfl
  | e :: l, h => by
    have ih := sum_heads g nd (l := l) fun e' he' => h e' (List.mem_cons_of_mem _ he')
    have key : ∀ c, (((e :: l).filter fun e => e.head? == some c).map fun e => g e.tail).sum = (if e.head? = some c then g e.tail else 0) + ((l.filter fun e => e.head? == some c).map fun e => g e.tail).sum := fun c => by
      rw [List.filter_cons]
      by_cases z : e.head? = some c
      · rw [if_pos (by rw [z]; exact beq_self_eq_true _), if_pos z, List.map_cons, List.sum_cons]
      · rw [if_neg (by rw [beq_iff_eq]; exact z), if_neg z, Nat.zero_add]
    rw [show (fun c => (((e :: l).filter fun e => e.head? == some c).map fun e => g e.tail).sum) = fun c => (if e.head? = some c then g e.tail else 0) + ((l.filter fun e => e.head? == some c).map fun e => g e.tail).sum from funext key]
    rw [sum_add, ih, List.filter_cons]
    cases e with
    | nil =>
      rw [sum_zero fun c _ => if_neg (by simp)]
      simp
    | cons c0 t =>
      have := sum_one c0 (g t) nd (h _ List.mem_cons_self c0 t rfl)
      rw [if_pos (by simp), List.map_cons, List.sum_cons]
      congr 1
      show _ = g t
      rw [← this]
      congr 1
      refine List.map_congr_left fun c _ => ?_
      simp
/-- the ends behind: by the next letter -/
theorem CE_step {N : Nat → Nat} {W E : List (List Nat)} {ls : List Nat} (nd : ls.Nodup) (hE : ∀ e ∈ E, ∀ c t, e = c :: t → c ∈ ls) (hW : ∀ e ∈ W, ∀ c t, e = c :: t → c ∈ ls) (ne : ∀ e ∈ W, e ≠ []) (one : E.count [] ≤ 1) {L : Nat} (hN : N (L + 1) = CE N W (L + 1)) :
    CE N E (L + 1) = (ls.map fun c => CE N (stE W E c) L).sum := by
  have fs : ∀ e : List Nat, e ≠ [] → fE N L e.tail = fE N (L + 1) e := fun e he => by
    cases e with
    | nil => exact absurd rfl he
    | cons c t =>
      unfold fE
      rw [List.tail_cons, List.length_cons]
      by_cases z : t.length ≤ L
      · rw [if_pos z, if_pos (by omega), show L + 1 - (t.length + 1) = L - t.length by omega]
      · rw [if_neg z, if_neg (by omega)]
  have e1 : (ls.map fun c => CE N (stE W E c) L).sum = (((beh W E).filter fun e => e != []).map fun e => fE N L e.tail).sum := by
    rw [← sum_heads (fE N L) nd (l := beh W E) fun e he c t ec => by
      unfold beh at he
      rcases List.mem_append.mp he with he | he
      · exact hE e he c t ec
      · split at he
        · exact hW e he c t ec
        · simp at he]
    congr 1
    refine List.map_congr_left fun c _ => ?_
    unfold CE stE
    rw [List.map_map]
    rfl
  have e2 : (((beh W E).filter fun e => e != []).map fun e => fE N L e.tail) = (((beh W E).filter fun e => e != []).map fun e => fE N (L + 1) e) := by
    refine List.map_congr_left fun e he => fs e ?_
    have := (List.mem_filter.mp he).2
    simpa using this
  have e3 : ∀ l : List (List Nat), (l.map (fE N (L + 1))).sum = l.count [] * N (L + 1) + ((l.filter fun e => e != []).map (fE N (L + 1))).sum := fun l => by
    induction l with
    | nil => simp
    | cons e l ih =>
      rw [List.map_cons, List.sum_cons, ih, List.count_cons, List.filter_cons]
      cases e with
      | nil =>
        have : fE N (L + 1) [] = N (L + 1) := by exact if_pos (Nat.zero_le _)
        rw [this]
        simp
        rw [Nat.add_mul]
        omega
      | cons c t =>
        simp
        omega
  rw [e1, e2]
  unfold CE at hN ⊢
  rw [e3 E]
  unfold beh
  rw [List.filter_append, List.map_append, List.sum_append]
  by_cases z : [] ∈ E
  · have c1 : E.count [] = 1 := by
      have := List.count_pos_iff.mpr z
      omega
    have fw : (W.filter fun e => e != []) = W := List.filter_eq_self.mpr fun e he => by
      have := ne e he
      simpa using this
    rw [if_pos z, c1, fw, ← hN, Nat.one_mul]
    exact Nat.add_comm _ _
  · have c0 : E.count [] = 0 := List.count_eq_zero.mpr z
    rw [if_neg z, c0]
    simp
/-- the ends behind a beginning, with their rows -/
structure EInv (W : List (List Nat)) (p : List Nat) (E : List (List Nat)) (prs : List (List (List Nat) × List Nat)) : Prop where
  sn : prs.map Prod.snd = E
  nd : (prs.map Prod.fst).Nodup
  ok : ∀ q ∈ prs, Row (fun x => x ∈ W) q.1 ∧ q.1.flatten = p ++ q.2 ∧ (q.1 ≠ [] → q.1.dropLast.flatten.length < p.length)
  all : ∀ u e, Row (fun x => x ∈ W) u → u.flatten = p ++ e → (u ≠ [] → u.dropLast.flatten.length < p.length) → (u, e) ∈ prs
theorem EInv.ini (W : List (List Nat)) : EInv W [] [[]] [([], [])] := by
  refine ⟨rfl, by simp, fun q hq => ?_, fun u e hu h1 h2 => ?_⟩
  · have : q = ([], []) := by simpa using hq
    subst this
    exact ⟨Row.nil, rfl, fun h => absurd rfl h⟩
  · by_cases z : u = []
    · subst z
      have : e = [] := by simpa using h1.symm
      rw [this]
      simp
    · have := h2 z
      simp at this
theorem EInv.uniq {W : List (List Nat)} (F : Free fun x => x ∈ W) {p : List Nat} {E : List (List Nat)} {prs : List (List (List Nat) × List Nat)} (I : EInv W p E prs) {q r : List (List Nat) × List Nat} (hq : q ∈ prs) (hr : r ∈ prs) (e : q.2 = r.2) : q = r := by
  obtain ⟨a1, a2, _⟩ := I.ok q hq
  obtain ⟨b1, b2, _⟩ := I.ok r hr
  have := F.un q.1 r.1 a1 b1 (by rw [a2, b2, e])
  exact Prod.ext this e
theorem EInv.nodup {W : List (List Nat)} (F : Free fun x => x ∈ W) {p : List Nat} {E : List (List Nat)} {prs : List (List (List Nat) × List Nat)} (I : EInv W p E prs) : E.Nodup := by
  rw [← I.sn]
  have nd : prs.Nodup := List.Pairwise.of_map Prod.fst (fun a b h e => h (by rw [e])) I.nd
  exact List.pairwise_map.mpr (List.Pairwise.imp_of_mem (fun {a b} ha hb ne e => ne (I.uniq F ha hb e)) nd)
theorem last_split {u : List (List Nat)} (h : u ≠ []) : ∃ v w, u = v ++ [w] ∧ u.dropLast = v := ⟨u.dropLast, u.getLast h, (List.dropLast_concat_getLast h).symm, rfl⟩
theorem EInv.step {W : List (List Nat)} (F : Free fun x => x ∈ W) (wn : W.Nodup) {p : List Nat} {E : List (List Nat)} {prs : List (List (List Nat) × List Nat)} (I : EInv W p E prs) (c : Nat) : ∃ prs', EInv W (p ++ [c]) (stE W E c) prs' := by
  classical
  let cand : List (List (List Nat) × List Nat) := (prs.filter fun q => decide (q.2 = [])).flatMap fun q => W.map fun w => (q.1 ++ [w], w)
  have onlyq : ∀ q ∈ prs, q.2 = [] → prs.filter (fun q => decide (q.2 = [])) = [q] := fun q hq e => by
    have nd : prs.Nodup := List.Pairwise.of_map Prod.fst (fun a b h e => h (by rw [e])) I.nd
    have nf := nd.sublist (List.filter_sublist (p := fun q : List (List Nat) × List Nat => decide (q.2 = [])))
    match hl : prs.filter (fun q => decide (q.2 = [])) with
    | [] =>
      have : q ∈ prs.filter (fun q => decide (q.2 = [])) := List.mem_filter.mpr ⟨hq, decide_eq_true e⟩
      rw [hl] at this
      simp at this
    | [a] =>
      have : q ∈ prs.filter (fun q => decide (q.2 = [])) := List.mem_filter.mpr ⟨hq, decide_eq_true e⟩
      rw [hl] at this
      rw [List.mem_singleton.mp this, hl]
    | a :: b :: l =>
      rw [hl] at nf
      have ha : a ∈ prs.filter (fun q => decide (q.2 = [])) := by rw [hl]; simp
      have hb : b ∈ prs.filter (fun q => decide (q.2 = [])) := by rw [hl]; simp
      obtain ⟨a1, a2⟩ := List.mem_filter.mp ha
      obtain ⟨b1, b2⟩ := List.mem_filter.mp hb
      have := I.uniq F a1 b1 ((of_decide_eq_true a2).trans (of_decide_eq_true b2).symm)
      subst this
      simp at nf
  have csn : cand.map Prod.snd = if [] ∈ E then W else [] := by
    by_cases z : [] ∈ E
    · rw [if_pos z]
      rw [← I.sn] at z
      obtain ⟨q, hq, e⟩ := List.mem_map.mp z
      show ((prs.filter fun q => decide (q.2 = [])).flatMap fun q => W.map fun w => (q.1 ++ [w], w)).map Prod.snd = W
      rw [onlyq q hq e, List.flatMap_cons, List.flatMap_nil, List.append_nil, List.map_map]
      exact List.map_id _
    · rw [if_neg z]
      have : prs.filter (fun q => decide (q.2 = [])) = [] := List.filter_eq_nil_iff.mpr fun q hq e => z (by rw [← I.sn]; exact List.mem_map.mpr ⟨q, hq, of_decide_eq_true e⟩)
      show ((prs.filter fun q => decide (q.2 = [])).flatMap fun q => W.map fun w => (q.1 ++ [w], w)).map Prod.snd = []
      rw [this]
      rfl
  have cmem : ∀ q ∈ cand, ∃ q0 ∈ prs, q0.2 = [] ∧ q.2 ∈ W ∧ q.1 = q0.1 ++ [q.2] := fun q hq => by
    obtain ⟨q0, h0, h1⟩ := List.mem_flatMap.mp hq
    obtain ⟨w, hw, rfl⟩ := List.mem_map.mp h1
    obtain ⟨a, b⟩ := List.mem_filter.mp h0
    exact ⟨q0, a, of_decide_eq_true b, hw, rfl⟩
  refine ⟨((prs ++ cand).filter fun q => q.2.head? == some c).map fun q => (q.1, q.2.tail), ?_, ?_, ?_, ?_⟩
  · unfold stE beh
    rw [← csn, ← I.sn, ← List.map_append, List.filter_map, List.map_map, List.map_map]
    rfl
  · rw [List.map_map]
    have nall : ((prs ++ cand).map Prod.fst).Nodup := by
      rw [List.map_append, List.nodup_append]
      refine ⟨I.nd, ?_, fun a ha b hb e => ?_⟩
      · show (((prs.filter fun q => decide (q.2 = [])).flatMap fun q => W.map fun w => (q.1 ++ [w], w)).map Prod.fst).Nodup
        by_cases z : ∃ q ∈ prs, q.2 = []
        · obtain ⟨q, hq, e⟩ := z
          rw [onlyq q hq e, List.flatMap_cons, List.flatMap_nil, List.append_nil, List.map_map]
          refine List.pairwise_map.mpr (wn.imp fun {x y} ne e => ne ?_)
          have e : q.1 ++ [x] = q.1 ++ [y] := e
          exact (List.cons.inj (List.append_cancel_left e)).1
        · have : prs.filter (fun q => decide (q.2 = [])) = [] := List.filter_eq_nil_iff.mpr fun q hq e => z ⟨q, hq, of_decide_eq_true e⟩
          rw [this]
          simp
      · subst e
        obtain ⟨q, hq, rfl⟩ := List.mem_map.mp ha
        obtain ⟨r, hr, er⟩ := List.mem_map.mp hb
        obtain ⟨q0, h0, e0, hw, e1⟩ := cmem r hr
        obtain ⟨_, _, a3⟩ := I.ok q hq
        obtain ⟨_, b2, _⟩ := I.ok q0 h0
        rw [e0, List.append_nil] at b2
        have ne : q.1 ≠ [] := by rw [← er, e1]; simp
        have := a3 ne
        rw [← er, e1, List.dropLast_concat, b2] at this
        omega
    have : ((fun q : List (List Nat) × List Nat => (q.1, q.2.tail)) : _ → _) = fun q => (q.1, q.2.tail) := rfl
    exact nall.sublist ((List.filter_sublist (p := fun q : List (List Nat) × List Nat => q.2.head? == some c)).map Prod.fst)
  · intro q hq
    obtain ⟨r, hr, rfl⟩ := List.mem_map.mp hq
    obtain ⟨hr, hc⟩ := List.mem_filter.mp hr
    have hc : r.2 = c :: r.2.tail := by
      have hc := eq_of_beq hc
      cases h2 : r.2 with
      | nil => rw [h2] at hc; cases hc
      | cons d t =>
        rw [h2] at hc
        have : d = c := by simpa using hc
        rw [this]
        rfl
    rcases List.mem_append.mp hr with hr | hr
    · obtain ⟨a1, a2, a3⟩ := I.ok r hr
      refine ⟨a1, ?_, fun ne => ?_⟩
      · show r.1.flatten = p ++ [c] ++ r.2.tail
        rw [a2, List.append_assoc]
        congr 1
      · have := a3 ne
        rw [List.length_append]
        exact Nat.lt_of_lt_of_le this (Nat.le_add_right _ _)
    · obtain ⟨q0, h0, e0, hw, e1⟩ := cmem r hr
      obtain ⟨b1, b2, _⟩ := I.ok q0 h0
      rw [e0, List.append_nil] at b2
      refine ⟨?_, ?_, fun _ => ?_⟩
      · show Row _ r.1
        rw [e1]
        exact b1.app (Row.cons hw Row.nil)
      · show r.1.flatten = p ++ [c] ++ r.2.tail
        rw [e1, List.flatten_append, b2, List.flatten_cons, List.flatten_nil, List.append_nil, List.append_assoc]
        congr 1
      · show r.1.dropLast.flatten.length < (p ++ [c]).length
        rw [e1, List.dropLast_concat, b2, List.length_append, List.length_singleton]
        omega
  · intro u e hu h1 h2
    have une : u ≠ [] := fun z => by
      subst z
      simp at h1
    obtain ⟨v, w, eu, ev⟩ := last_split une
    have h2' := h2 une
    rw [ev, List.length_append, List.length_singleton] at h2'
    refine List.mem_map.mpr ⟨(u, c :: e), List.mem_filter.mpr ⟨?_, by simp⟩, rfl⟩
    rw [List.append_assoc] at h1
    by_cases z : v.flatten.length < p.length
    · exact List.mem_append_left _ (I.all u (c :: e) hu h1 fun _ => by rw [ev]; exact z)
    · refine List.mem_append_right _ ?_
      have vl : v.flatten.length = p.length := by omega
      rw [eu, List.flatten_append, List.flatten_cons, List.flatten_nil, List.append_nil] at h1
      obtain ⟨e1, e2⟩ := List.append_inj h1 vl
      have e2 : w = c :: e := e2
      have hv : Row (fun x => x ∈ W) v := fun x hx => hu x (by rw [eu]; exact List.mem_append_left _ hx)
      have hw : w ∈ W := hu w (by rw [eu]; simp)
      have q0 : (v, []) ∈ prs := I.all v [] hv (by rw [e1, List.append_nil]) fun vne => by
        obtain ⟨v', w', ev', evd⟩ := last_split vne
        rw [evd, ← e1, ev', List.flatten_append, List.length_append]
        have : w' ≠ [] := F.ne w' (hv w' (by rw [ev']; simp))
        have := List.length_pos_iff.mpr this
        simp
        omega
      refine List.mem_flatMap.mpr ⟨(v, []), List.mem_filter.mpr ⟨q0, decide_eq_true rfl⟩, List.mem_map.mpr ⟨w, hw, ?_⟩⟩
      rw [eu, e2]
/-! ### the place of a text among those of its length, and back -/
def St (W E : List (List Nat)) : Prop := ∃ p prs, EInv W p E prs
theorem St.ini (W : List (List Nat)) : St W [[]] := ⟨_, _, EInv.ini W⟩
structure Cnt (W : List (List Nat)) (N : Nat → Nat) (ls : List Nat) : Prop where
  F : Free fun x => x ∈ W
  wn : W.Nodup
  so : ls.Pairwise (· < ·)
  ltr : ∀ w ∈ W, ∀ c ∈ w, c ∈ ls
  N0 : N 0 = 1
  N1 : ∀ L, N (L + 1) = CE N W (L + 1)
theorem Cnt.nd {W : List (List Nat)} {N : Nat → Nat} {ls : List Nat} (K : Cnt W N ls) : ls.Nodup := K.so.imp fun h e => by
  subst e
  exact Nat.lt_irrefl _ h
section
variable {W E : List (List Nat)} {N : Nat → Nat} {ls : List Nat}
theorem St.step (K : Cnt W N ls) (s : St W E) (c : Nat) : St W (stE W E c) := by
  obtain ⟨p, prs, I⟩ := s
  obtain ⟨prs', I'⟩ := I.step K.F K.wn c
  exact ⟨_, _, I'⟩
theorem St.ltr (K : Cnt W N ls) (s : St W E) : ∀ e ∈ E, ∀ c t, e = c :: t → c ∈ ls := by
  obtain ⟨p, prs, I⟩ := s
  intro e he c t ec
  rw [← I.sn] at he
  obtain ⟨q, hq, rfl⟩ := List.mem_map.mp he
  obtain ⟨a1, a2, a3⟩ := I.ok q hq
  by_cases z : q.1 = []
  · rw [z] at a2
    have := (List.append_eq_nil_iff.mp (a2.symm : p ++ q.2 = [])).2
    rw [this] at ec
    cases ec
  · obtain ⟨v, w, eu, ev⟩ := last_split z
    have l := a3 z
    rw [ev] at l
    rw [eu, List.flatten_append, List.flatten_cons, List.flatten_nil, List.append_nil] at a2
    have hw : w ∈ W := a1 w (by rw [eu]; simp)
    refine K.ltr w hw c ?_
    have hc : c ∈ q.2 := by rw [ec]; simp
    obtain ⟨i, hi, e⟩ := List.getElem_of_mem hc
    have g : (v.flatten ++ w)[p.length + i]? = some c := by
      rw [a2, List.getElem?_append_right (by omega)]
      rw [show p.length + i - p.length = i by omega, List.getElem?_eq_getElem hi, e]
    rw [List.getElem?_append_right (by omega)] at g
    exact List.mem_of_getElem? g
theorem St.sum (K : Cnt W N ls) (s : St W E) (L : Nat) : CE N E (L + 1) = (ls.map fun c => CE N (stE W E c) L).sum := by
  have hl := s.ltr K
  obtain ⟨p, prs, I⟩ := s
  have nd := I.nodup K.F
  refine CE_step K.nd hl (fun e he c t ec => K.ltr e he c (by rw [ec]; simp)) (fun e he => K.F.ne e he) ?_ (K.N1 L)
  exact List.nodup_iff_count.mp nd []
def IX (W : List (List Nat)) (N : Nat → Nat) (ls : List Nat) : List (List Nat) → List Nat → Nat
  | _, [] => 0
  | E, c :: t => ((ls.filter fun d => decide (d < c)).map fun d => CE N (stE W E d) t.length).sum + IX W N ls (stE W E c) t
theorem sum_below (f : Nat → Nat) (c : Nat) : ∀ {ls : List Nat}, ls.Pairwise (· < ·) → c ∈ ls → ((ls.filter fun d => decide (d < c)).map f).sum + f c ≤ (ls.map f).sum
  | a :: ls, so, h => by
    obtain ⟨s1, s2⟩ := List.pairwise_cons.mp so
    rw [List.map_cons, List.sum_cons, List.filter_cons]
    rcases List.mem_cons.mp h with rfl | h
    · have e : (ls.filter fun d => decide (d < c)) = [] := List.filter_eq_nil_iff.mpr fun d hd e => by
        have := s1 d hd
        have := of_decide_eq_true e
        omega
      rw [if_neg (by simp), e]
      simp
    · have lt := s1 c h
      rw [if_pos (decide_eq_true lt), List.map_cons, List.sum_cons]
      have := sum_below f c s2 h
      omega
theorem IX_lt (K : Cnt W N ls) : ∀ (rest : List Nat) (E : List (List Nat)), St W E → (∀ c ∈ rest, c ∈ ls) → [] ∈ rest.foldl (stE W) E → IX W N ls E rest < CE N E rest.length
  | [], E, s, _, h => by
    have h : [] ∈ E := h
    have mem : fE N 0 [] ∈ E.map (fE N 0) := List.mem_map.mpr ⟨[], h, rfl⟩
    have f0 : fE N 0 [] = 1 := by
      unfold fE
      rw [← K.N0]
      exact if_pos (Nat.zero_le _)
    have le : ∀ (l : List Nat) (x : Nat), x ∈ l → x ≤ l.sum := fun l => by
      induction l with
      | nil => intro x hx; simp at hx
      | cons a l ih =>
        intro x hx
        rw [List.sum_cons]
        rcases List.mem_cons.mp hx with rfl | hx
        · omega
        · have := ih x hx
          omega
    have := le _ _ mem
    rw [f0] at this
    exact this
  | c :: t, E, s, hl, h => by
    have ih := IX_lt K t (stE W E c) (s.step K c) (fun d hd => hl d (List.mem_cons_of_mem _ hd)) h
    have sb := sum_below (fun d => CE N (stE W E d) t.length) c K.so (hl c List.mem_cons_self)
    rw [List.length_cons, s.sum K]
    unfold IX
    omega
/-- the letter of an index, and what is left of it -/
def grd (f : Nat → Nat) : List Nat → Nat → Option (Nat × Nat)
  | [], _ => none
  | c :: ls, left => if left < f c then some (c, left) else grd f ls (left - f c)
theorem grd_of (f : Nat → Nat) (c : Nat) : ∀ {ls : List Nat} {l : Nat}, ls.Pairwise (· < ·) → c ∈ ls → l < f c → grd f ls (((ls.filter fun d => decide (d < c)).map f).sum + l) = some (c, l)
  | a :: ls, l, so, h, hl => by
    obtain ⟨s1, s2⟩ := List.pairwise_cons.mp so
    unfold grd
    rw [List.filter_cons]
    rcases List.mem_cons.mp h with rfl | h
    · have e : (ls.filter fun d => decide (d < c)) = [] := List.filter_eq_nil_iff.mpr fun d hd e => by
        have := s1 d hd
        have := of_decide_eq_true e
        omega
      rw [if_neg (by simp : ¬ decide (c < c) = true), e]
      simp only [List.map_nil, List.sum_nil, Nat.zero_add]
      rw [if_pos hl]
    · have lt := s1 c h
      rw [if_pos (decide_eq_true lt), List.map_cons, List.sum_cons, if_neg (by omega), show f a + ((ls.filter fun d => decide (d < c)).map f).sum + l - f a = ((ls.filter fun d => decide (d < c)).map f).sum + l by omega]
      exact grd_of f c s2 h hl
theorem grd_some (f : Nat → Nat) : ∀ {ls : List Nat} {i : Nat}, ls.Pairwise (· < ·) → i < (ls.map f).sum → ∃ c l, c ∈ ls ∧ l < f c ∧ i = ((ls.filter fun d => decide (d < c)).map f).sum + l ∧ grd f ls i = some (c, l)
  | [], i, _, h => by simp at h
  | a :: ls, i, so, h => by
    obtain ⟨s1, s2⟩ := List.pairwise_cons.mp so
    rw [List.map_cons, List.sum_cons] at h
    by_cases z : i < f a
    · refine ⟨a, i, List.mem_cons_self, z, ?_, by unfold grd; rw [if_pos z]⟩
      have e : ((a :: ls).filter fun d => decide (d < a)) = [] := List.filter_eq_nil_iff.mpr fun d hd e => by
        have e := of_decide_eq_true e
        rcases List.mem_cons.mp hd with rfl | hd
        · omega
        · have := s1 d hd
          omega
      rw [e]
      simp
    · obtain ⟨c, l, h1, h2, h3, h4⟩ := grd_some f (i := i - f a) s2 (by omega)
      refine ⟨c, l, List.mem_cons_of_mem _ h1, h2, ?_, by unfold grd; rw [if_neg z, h4]⟩
      rw [List.filter_cons, if_pos (decide_eq_true (s1 c h1)), List.map_cons, List.sum_cons]
      omega
def NT (W : List (List Nat)) (N : Nat → Nat) (ls : List Nat) : List (List Nat) → Nat → Nat → List Nat
  | _, 0, _ => []
  | E, L + 1, i => match grd (fun d => CE N (stE W E d) L) ls i with
    | some (c, l) => c :: NT W N ls (stE W E c) L l
    | none => []
theorem NT_IX (K : Cnt W N ls) : ∀ (rest : List Nat) (E : List (List Nat)), St W E → (∀ c ∈ rest, c ∈ ls) → [] ∈ rest.foldl (stE W) E → NT W N ls E rest.length (IX W N ls E rest) = rest
  | [], _, _, _, _ => rfl
  | c :: t, E, s, hl, h => by
    have lt := IX_lt K t (stE W E c) (s.step K c) (fun d hd => hl d (List.mem_cons_of_mem _ hd)) h
    have g := grd_of (fun d => CE N (stE W E d) t.length) c K.so (hl c List.mem_cons_self) lt
    rw [List.length_cons]
    unfold NT IX
    rw [g]
    dsimp only
    rw [NT_IX K t (stE W E c) (s.step K c) (fun d hd => hl d (List.mem_cons_of_mem _ hd)) h]
theorem NT_lt (K : Cnt W N ls) : ∀ (rest : List Nat) (E : List (List Nat)) (j : Nat), St W E → (∀ c ∈ rest, c ∈ ls) → [] ∈ rest.foldl (stE W) E → j < IX W N ls E rest → NT W N ls E rest.length j < rest
  | [], _, j, _, _, _, h => by
    have h : j < 0 := h
    omega
  | c :: t, E, j, s, hl, h, hj => by
    have tot := IX_lt K (c :: t) E s hl h
    rw [List.length_cons, s.sum K] at tot
    obtain ⟨d, l, h1, h2, h3, h4⟩ := grd_some (fun d => CE N (stE W E d) t.length) (i := j) K.so (Nat.lt_trans hj tot)
    rw [List.length_cons]
    unfold NT
    rw [h4]
    dsimp only
    by_cases z : d < c
    · exact List.Lex.rel z
    · by_cases z2 : d = c
      · subst z2
        refine List.Lex.cons ?_
        refine NT_lt K t (stE W E d) l (s.step K d) (fun x hx => hl x (List.mem_cons_of_mem _ hx)) h ?_
        unfold IX at hj
        omega
      · exfalso
        have cd : c < d := by omega
        have : ((ls.filter fun x => decide (x < c)).map fun x => CE N (stE W E x) t.length).sum + CE N (stE W E c) t.length ≤ ((ls.filter fun x => decide (x < d)).map fun x => CE N (stE W E x) t.length).sum := by
          have := sum_below (fun x => CE N (stE W E x) t.length) c (ls := ls.filter fun x => decide (x < d)) (K.so.sublist List.filter_sublist) (List.mem_filter.mpr ⟨hl c List.mem_cons_self, decide_eq_true cd⟩)
          rw [List.filter_filter] at this
          have ef : (ls.filter fun x => decide (x < c) && decide (x < d)) = ls.filter fun x => decide (x < c) := List.filter_congr fun x _ => by
            by_cases q : x < c
            · rw [decide_eq_true q, decide_eq_true (show x < d by omega)]
              rfl
            · rw [decide_eq_false q]
              rfl
          rw [ef] at this
          exact this
        have lt := IX_lt K t (stE W E c) (s.step K c) (fun x hx => hl x (List.mem_cons_of_mem _ hx)) h
        unfold IX at hj
        omega
end
theorem EInv.fold {W : List (List Nat)} (F : Free fun x => x ∈ W) (wn : W.Nodup) : ∀ (rest p : List Nat) (E : List (List Nat)) (prs : List (List (List Nat) × List Nat)), EInv W p E prs → ∃ prs', EInv W (p ++ rest) (rest.foldl (stE W) E) prs'
  | [], p, E, prs, I => ⟨prs, by rw [List.append_nil]; exact I⟩
  | c :: t, p, E, prs, I => by
    obtain ⟨prs1, I1⟩ := I.step F wn c
    obtain ⟨prs2, I2⟩ := EInv.fold F wn t (p ++ [c]) (stE W E c) prs1 I1
    refine ⟨prs2, ?_⟩
    rw [List.append_assoc] at I2
    exact I2
theorem made_end {W : List (List Nat)} (F : Free fun x => x ∈ W) (wn : W.Nodup) {u : List (List Nat)} (hu : Row (fun x => x ∈ W) u) : [] ∈ u.flatten.foldl (stE W) [[]] := by
  obtain ⟨prs, I⟩ := EInv.fold F wn u.flatten [] [[]] _ (EInv.ini W)
  have := I.all u [] hu (by simp) fun ne => by
    obtain ⟨v, w, eu, ev⟩ := last_split ne
    rw [ev, eu]
    have : w ≠ [] := F.ne w (hu w (by rw [eu]; simp))
    have := List.length_pos_iff.mpr this
    simp
    omega
  rw [← I.sn]
  exact List.mem_map.mpr ⟨_, this, rfl⟩
theorem end_made {W : List (List Nat)} (F : Free fun x => x ∈ W) (wn : W.Nodup) {t : List Nat} (h : [] ∈ t.foldl (stE W) [[]]) : ∃ u, Row (fun x => x ∈ W) u ∧ u.flatten = t := by
  obtain ⟨prs, I⟩ := EInv.fold F wn t [] [[]] _ (EInv.ini W)
  rw [← I.sn] at h
  obtain ⟨q, hq, e⟩ := List.mem_map.mp h
  obtain ⟨a, b, _⟩ := I.ok q hq
  exact ⟨q.1, a, by rw [b, e]; simp⟩
/-- how many texts of each length -/
def ctl (W : List (List Nat)) : Nat → List Nat
  | 0 => [1]
  | n + 1 => ctl W n ++ [(W.map fun w => if w.length ≤ n + 1 then (ctl W n).getD (n + 1 - w.length) 0 else 0).sum]
def NN (W : List (List Nat)) (n : Nat) : Nat := (ctl W n).getD n 0
theorem ctl_len (W : List (List Nat)) : ∀ n, (ctl W n).length = n + 1
  | 0 => rfl
  | n + 1 => by
    show (ctl W n ++ [_]).length = _
    rw [List.length_append, ctl_len W n]
    rfl
theorem ctl_get (W : List (List Nat)) : ∀ n k, k ≤ n → (ctl W n).getD k 0 = NN W k
  | 0, k, h => by
    have : k = 0 := by omega
    subst this
    rfl
  | n + 1, k, h => by
    by_cases z : k = n + 1
    · subst z
      rfl
    · have e : (ctl W (n + 1)).getD k 0 = (ctl W n).getD k 0 := by
        show (ctl W n ++ [_]).getD k 0 = _
        rw [List.getD_eq_getElem?_getD, List.getD_eq_getElem?_getD, List.getElem?_append_left (by rw [ctl_len]; omega)]
      rw [e, ctl_get W n k (by omega)]
theorem NN_zero (W : List (List Nat)) : NN W 0 = 1 := rfl
theorem NN_succ {W : List (List Nat)} (ne : ∀ w ∈ W, w ≠ []) (L : Nat) : NN W (L + 1) = CE (NN W) W (L + 1) := by
  have e : NN W (L + 1) = (W.map fun w => if w.length ≤ L + 1 then (ctl W L).getD (L + 1 - w.length) 0 else 0).sum := by
    unfold NN
    show (ctl W L ++ [_]).getD (L + 1) 0 = _
    rw [List.getD_eq_getElem?_getD, List.getElem?_append_right (by rw [ctl_len]; omega), ctl_len]
    simp
  rw [e]
  unfold CE
  congr 1
  refine List.map_congr_left fun w hw => ?_
  have := List.length_pos_iff.mpr (ne w hw)
  unfold fE
  by_cases z : w.length ≤ L + 1
  · rw [if_pos z, if_pos z, ctl_get W L _ (by omega)]
  · rw [if_neg z, if_neg z]
theorem cnt_of {W : List (List Nat)} {ls : List Nat} (F : Free fun x => x ∈ W) (wn : W.Nodup) (so : ls.Pairwise (· < ·)) (ltr : ∀ w ∈ W, ∀ c ∈ w, c ∈ ls) : Cnt W (NN W) ls := ⟨F, wn, so, ltr, rfl, NN_succ fun w hw => F.ne w hw⟩
/-! ### more words: no fewer texts -/
theorem sum_sub {α : Type} [DecidableEq α] (f : α → Nat) : ∀ {l m : List α}, l.Nodup → (∀ x ∈ l, x ∈ m) → (l.map f).sum ≤ (m.map f).sum
  | [], m, _, _ => Nat.zero_le _
  | x :: l, m, nd, h => by
    obtain ⟨n1, n2⟩ := List.nodup_cons.mp nd
    have hx := h x List.mem_cons_self
    have p := List.Perm.sum_nat ((List.perm_cons_erase hx).map f)
    rw [List.map_cons, List.sum_cons] at p
    have ih := sum_sub f (l := l) (m := m.erase x) n2 fun y hy => (List.mem_erase_of_ne fun e => n1 (by rw [← e]; exact hy)).mpr (h y (List.mem_cons_of_mem _ hy))
    rw [List.map_cons, List.sum_cons, p]
    omega
theorem sum_mono {α : Type} {f g : α → Nat} : ∀ {l : List α}, (∀ x ∈ l, f x ≤ g x) → (l.map f).sum ≤ (l.map g).sum
  | [], _ => Nat.le_refl _
  | x :: l, h => by
    have := h x List.mem_cons_self
    have := sum_mono (l := l) fun y hy => h y (List.mem_cons_of_mem _ hy)
    rw [List.map_cons, List.map_cons, List.sum_cons, List.sum_cons]
    omega
theorem CE_mono {N N' : Nat → Nat} {E E' : List (List Nat)} {L : Nat} (nd : E.Nodup) (h : ∀ e ∈ E, e ∈ E') (hN : ∀ k, k ≤ L → N k ≤ N' k) : CE N E L ≤ CE N' E' L := by
  refine Nat.le_trans (sum_mono (g := fE N' L) fun e _ => ?_) (sum_sub _ nd h)
  unfold fE
  split
  · exact hN _ (by omega)
  · exact Nat.le_refl _
theorem NN_mono {W W' : List (List Nat)} (nd : W.Nodup) (h : ∀ w ∈ W, w ∈ W') (ne : ∀ w ∈ W', w ≠ []) : ∀ n k, k ≤ n → NN W k ≤ NN W' k
  | 0, k, hk => by
    have : k = 0 := by omega
    subst this
    exact Nat.le_refl _
  | n + 1, k, hk => by
    by_cases z : k = n + 1
    · subst z
      rw [NN_succ (fun w hw => ne w (h w hw)), NN_succ ne]
      have key : ∀ e ∈ W, fE (NN W) (n + 1) e ≤ fE (NN W') (n + 1) e := fun e he => by
        have := List.length_pos_iff.mpr (ne e (h e he))
        unfold fE
        split
        · exact NN_mono nd h ne n _ (by omega)
        · exact Nat.le_refl _
      exact Nat.le_trans (sum_mono key) (sum_sub _ nd h)
    · exact NN_mono nd h ne n k (by omega)
theorem stE_sub {W W' E E' : List (List Nat)} (hW : ∀ w ∈ W, w ∈ W') (hE : ∀ e ∈ E, e ∈ E') (c : Nat) : ∀ e ∈ stE W E c, e ∈ stE W' E' c := by
  intro e he
  unfold stE beh at he ⊢
  obtain ⟨x, hx, rfl⟩ := List.mem_map.mp he
  obtain ⟨hx, hc⟩ := List.mem_filter.mp hx
  refine List.mem_map.mpr ⟨x, List.mem_filter.mpr ⟨?_, hc⟩, rfl⟩
  rcases List.mem_append.mp hx with hx | hx
  · exact List.mem_append_left _ (hE x hx)
  · split at hx
    · rename_i z
      refine List.mem_append_right _ ?_
      rw [if_pos (hE [] z)]
      exact hW x hx
    · simp at hx
theorem St.nodup {W E : List (List Nat)} (F : Free fun x => x ∈ W) (s : St W E) : E.Nodup := by
  obtain ⟨p, prs, I⟩ := s
  exact I.nodup F
theorem IX_mono {W W' : List (List Nat)} {ls ls' : List Nat} (K : Cnt W (NN W) ls) (hW : ∀ w ∈ W, w ∈ W') (ne' : ∀ w ∈ W', w ≠ []) (hls : ∀ c ∈ ls, c ∈ ls') : ∀ (rest : List Nat) (E E' : List (List Nat)), St W E → (∀ e ∈ E, e ∈ E') → IX W (NN W) ls E rest ≤ IX W' (NN W') ls' E' rest
  | [], _, _, _, _ => Nat.le_refl _
  | c :: t, E, E', s, h => by
    unfold IX
    have ih := IX_mono K hW ne' hls t (stE W E c) (stE W' E' c) (s.step K c) (stE_sub hW h c)
    have a : ((ls.filter fun d => decide (d < c)).map fun d => CE (NN W) (stE W E d) t.length).sum ≤ ((ls.filter fun d => decide (d < c)).map fun d => CE (NN W') (stE W' E' d) t.length).sum :=
      sum_mono fun d _ => CE_mono ((s.step K d).nodup K.F) (stE_sub hW h d) fun k _ => NN_mono K.wn hW ne' k k (Nat.le_refl _)
    have b : ((ls.filter fun d => decide (d < c)).map fun d => CE (NN W') (stE W' E' d) t.length).sum ≤ ((ls'.filter fun d => decide (d < c)).map fun d => CE (NN W') (stE W' E' d) t.length).sum :=
      sum_sub _ (K.nd.sublist List.filter_sublist) fun d hd => by
        obtain ⟨h1, h2⟩ := List.mem_filter.mp hd
        exact List.mem_filter.mpr ⟨hls d h1, h2⟩
    omega
end WH
namespace WH
open PySem PySem.Spec PyProof.Rows L2
open Enc (enc)
open EncL (encl)
theorem atI_i {α : Type} {xs : List α} {e : Int} (h0 : 0 ≤ e) (h : e.toNat < xs.length) : atI xs e = some xs[e.toNat] := by
  have := atI_nat (xs := xs) (j := e.toNat) (v := xs[e.toNat]) (List.getElem?_eq_getElem h)
  rwa [show ((e.toNat : Nat) : Int) = e by omega] at this
theorem at_mem {α : Type} {xs : List α} {i : Int} (h0 : 0 ≤ i) (h1 : i < xs.length) : ∃ a, atI xs i = some a ∧ a ∈ xs := ⟨xs[i.toNat]'(by omega), atI_i h0 (by omega), List.getElem_mem _⟩
theorem draw_spec {k n : Int} {Q : Int → Int → Prop} (h0 : n < 1000000) (h1 : 0 < k) (h2 : k < 1000000) (q : ∀ d, 0 ≤ d → d < k → Q d (n + 1)) : m_law_draw k n Q := ⟨⟨h0, h1, by omega⟩, q⟩
theorem word_spec {wd : Int} {sg : Str} {n : Int} {Q : Str → Int → Prop} (hn : n < 900000) (hw : 0 < wd) (hw' : wd ≤ 20) (hs : 0 < sg.length) (hs' : sg.length ≤ 100)
    (q : ∀ z n', 1 ≤ z.length → (z.length : Int) ≤ wd → (∀ c ∈ z.cps.toList, c ∈ sg.cps.toList) → n' ≤ n + 21 → Q z n') : m_law_word wd sg n Q := by
  unfold m_law_word
  dsimp only [bnd, ret, need, turnM, m_law_draw]
  refine ⟨⟨by omega, by omega, by omega⟩, fun d d0 d1 => ⟨⟨by omega, by omega⟩, ?_⟩⟩
  have hl : (intsUp 0 (1 + d).toNat).length = (1 + d).toNat := by simp [intsUp]
  refine ⟨by rw [hl]; exact Nat.le_trans (show (1 + d).toNat ≤ 20 by omega) (by decide), ?_⟩
  refine cmpW_all (fun u : Str => ∃ c ∈ sg.cps.toList, u = ⟨#[c]⟩) 1 900030 (fun x _ m R hm r => ?_) (by rw [hl]; omega) (by decide) ?_
  · refine ⟨fun _ => ?_, fun h => Bool.noConfusion h⟩
    refine ⟨Nat.le_trans hs' (by decide), ⟨by omega, by omega, by omega⟩, fun e e0 e1 => ⟨Nat.le_trans hs' (by decide), ?_⟩⟩
    have e2 : e < (sg.cps.toList.length : Int) := by
      have : sg.length = sg.cps.toList.length := by simp [Str.length]
      omega
    obtain ⟨c, hc, hm'⟩ := at_mem (xs := sg.cps.toList) e0 e2
    exact ⟨c, hc, r _ _ ⟨c, hm', rfl⟩ (by omega)⟩
  · intro us n' hul hu hn'
    rw [hl] at hul hn'
    have h1 := sum_ones us fun u hm' => let ⟨c, _, e⟩ := hu u hm'; ⟨c, e⟩
    refine ⟨?_, ?_⟩
    · rw [h1]
      show us.length + us.length * 0 ≤ 16777216
      omega
    · rw [join_cat (by rfl)]
      have hlen : (catS us).length = us.length := by rw [catS_len, h1]
      refine q _ _ (by rw [hlen]; omega) (by rw [hlen]; omega) ?_ (by omega)
      intro c hc
      rw [catS_list] at hc
      obtain ⟨l, hl', hc'⟩ := List.mem_flatten.mp hc
      obtain ⟨u, hu', rfl⟩ := List.mem_map.mp hl'
      obtain ⟨c', hm', rfl⟩ := hu u hu'
      simp at hc'
      subst hc'
      exact hm'
def sgs : List Str := ["ab", "ab", "abc", "zq", LET]
theorem sgs_ok : ∀ s ∈ sgs, 0 < s.length ∧ s.length ≤ 100 ∧ isL s = true := by decide +kernel
structure LotOk (ws : List Str) (wd : Int) : Prop where
  nd : ws.Nodup
  l : ∀ x ∈ ws, isL x = true ∧ 1 ≤ x.length ∧ (x.length : Int) ≤ wd
theorem lot_spec {many wd n : Int} {Q : List Str → Int → Prop} (hn : n < 800000) (hm : 1 ≤ many) (hm' : many ≤ 8) (hw : 1 ≤ wd) (hw' : wd ≤ 20)
    (q : ∀ ws n', LotOk ws wd → 1 ≤ ws.length → (ws.length : Int) ≤ many → n' ≤ n + 500 → Q ws n') : m_law_lot many wd n Q := by
  unfold m_law_lot
  dsimp only [bnd, ret, need, m_law_draw, iteM, andM, atM]
  refine ⟨⟨by omega, by omega, by omega⟩, fun d d0 d1 => ?_⟩
  obtain ⟨sg, hsg, hsm⟩ := at_mem (xs := sgs) d0 d1
  obtain ⟨sg1, sg2, sg3⟩ := sgs_ok sg hsm
  refine ⟨sg, hsg, ?_⟩
  refine ⟨⟨by omega, by omega, by omega⟩, fun d' d0' d1' => ⟨⟨by omega, by omega⟩, ?_⟩⟩
  have hl : (intsUp 0 (1 + d').toNat).length = (1 + d').toNat := by simp [intsUp]
  refine forW_inv (fun r (ws : List Str) m => LotOk ws wd ∧ ws.length + r.length ≤ (1 + d').toNat ∧ (r.length < (1 + d').toNat → 1 ≤ ws.length) ∧ m ≤ n + 2 + 30 * (((1 + d').toNat : Int) - r.length) ∧ r.length ≤ (1 + d').toNat) ⟨⟨List.nodup_nil, fun x h => by simp at h⟩, by rw [hl]; simp, by rw [hl]; omega, by rw [hl]; omega, by rw [hl]; omega⟩ ?_ ?_
  · rintro x r ws m Nx ⟨lo, wl, wi, hm3, hrl⟩ hN
    rw [List.length_cons] at wl wi hm3 hrl
    push_cast at hm3
    refine word_spec (by omega) hw hw' sg1 sg2 fun z n1 z1 z2 z3 hn1 => ?_
    refine ⟨⟨by omega, by omega, by omega⟩, fun way w0 w1 => ?_⟩
    have zL : isL z = true := isL_iff.mpr fun c hc => isL_iff.mp sg3 c (z3 c hc)
    refine join_in (fun (y : Str) m' => isL y = true ∧ 1 ≤ y.length ∧ y.length ≤ 1000 ∧ (ws = [] → (y.length : Int) ≤ wd) ∧ m' ≤ m + 29) ?_ fun J hJ => ?_
    · rintro y m' ⟨yL, y1, y2, y3, hm4⟩
      refine ⟨Nat.le_trans y2 (by decide), fun h1 => ⟨fun h2 => ⟨Nat.le_trans (show ws.length ≤ 100 by omega) (by decide), ?_⟩, fun h2 => ?_⟩, fun h1 => ⟨fun h => Bool.noConfusion h, fun _ => ?_⟩⟩
      · have h1 := of_decide_eq_true h1
        have h2 : y ∉ ws := by simpa using h2
        refine hN _ _ ⟨⟨?_, ?_⟩, by rw [List.length_append, List.length_singleton]; omega, fun _ => by rw [List.length_append, List.length_singleton]; omega, by omega, by omega⟩
        · rw [List.nodup_append]
          exact ⟨lo.nd, by simp, fun a ha b hb => by
            simp at hb
            subst hb
            intro e
            subst e
            exact h2 ha⟩
        · intro x hx
          rcases List.mem_append.mp hx with h | h
          · exact lo.l x h
          · have e : x = y := by simpa using h
            subst e
            exact ⟨yL, y1, h1⟩
      · have h2 : y ∈ ws := by simpa using h2
        exact hN _ _ ⟨lo, by omega, fun _ => List.length_pos_of_mem h2, by omega, by omega⟩
      · have h1 := of_decide_eq_false h1
        refine hN _ _ ⟨lo, by omega, fun _ => ?_, by omega, by omega⟩
        cases ws with
        | nil => exact absurd (y3 rfl) h1
        | cons a b => simp
    · have sok : DtOk.sok ws := sokW fun x hx => (lo.l x hx).1
      refine ⟨⟨okA sok, okA (α := List Str) (a := []) fun x h => by simp at h⟩, ?_⟩
      rw [eqE_nil]
      refine ⟨fun c0 => ⟨fun c1 => ?_, fun c1 => hJ _ _ ⟨zL, z1, by omega, fun _ => z2, by omega⟩⟩, fun c0 => ⟨fun h => Bool.noConfusion h, fun _ => hJ _ _ ⟨zL, z1, by omega, fun _ => z2, by omega⟩⟩⟩
      · have c1 := of_decide_eq_true c1
        have c0 : ws ≠ [] := by simpa using c0
        have wl1 : 1 ≤ ws.length := List.length_pos_iff.mpr c0
        refine ⟨⟨by omega, by omega, by omega⟩, fun da a0 a1 => ?_⟩
        obtain ⟨lf, hlf, lfm⟩ := at_mem (xs := ws) a0 a1
        refine ⟨lf, hlf, ⟨by omega, by omega, by omega⟩, fun db e0 e1 => ?_⟩
        obtain ⟨rt, hrt, rtm⟩ := at_mem (xs := ws) e0 e1
        obtain ⟨lf1, lf2, lf3⟩ := lo.l lf lfm
        obtain ⟨rt1, rt2, rt3⟩ := lo.l rt rtm
        have big : ∀ k : Nat, k ≤ 40 → k ≤ LIM := fun k h => Nat.le_trans h (by decide)
        refine ⟨rt, hrt, big _ (by omega), ⟨by omega, by omega, by omega⟩, fun dc g0 g1 => ?_⟩
        have cL : (cutS lf (some (1 + dc - 1)) none).length = lf.length - (1 + dc - 1).toNat := len_lo (by omega)
        have cR : (cutS rt none (some 1)).length = min (1 : Int).toNat rt.length := len_hi (by omega)
        have cC : (cutS lf none (some (1 + dc))).length = min (1 + dc).toNat lf.length := len_hi (by omega)
        have cR' : (1 : Int).toNat = 1 := rfl
        refine ⟨big _ (by omega), big _ (by omega), big _ (by omega), big _ (by omega), big _ (by omega), ?_⟩
        obtain ⟨y, hy, ym⟩ := at_mem (xs := [lf ++ rt, cutS lf none (some (1 + dc)), cutS lf (some (1 + dc - 1)) none ++ cutS rt none (some 1)]) w0 (by simpa using c1)
        refine ⟨y, hy, hJ _ _ ?_⟩
        have yy : isL y = true ∧ 1 ≤ y.length ∧ y.length ≤ 1000 := by
          simp only [List.mem_cons, List.not_mem_nil, or_false] at ym
          rcases ym with e | e | e
          · rw [e, len_app]
            exact ⟨isL_app lf1 rt1, by omega, by omega⟩
          · rw [e]
            exact ⟨isL_hi (by omega) lf1, by omega, by omega⟩
          · rw [e, len_app]
            exact ⟨isL_app (isL_lo (by omega) lf1) (isL_hi (by omega) rt1), by omega, by omega⟩
        exact ⟨yy.1, yy.2.1, yy.2.2, fun z => absurd z c0, by omega⟩
  · rintro ws m ⟨lo, wl, wi, hm3, _⟩
    exact q ws m lo (wi (by simp; omega)) (by simp at wl; omega) (by simp at hm3; omega)
end WH
namespace WH
open PySem PySem.Spec PyProof.Rows L2
open Enc (enc)
open EncL (encl)
def knowns : List Str := ["a ab ba", "aab ab aba", "a ab bb", "aa aaa", "ab abab", "a ba", "abab", "a b", "ab abb baab", "aa ab ba bb", "a ab", "abc bcd cda dab", "aba bab", "ab ba", "a abb bbab", "aaaaaaaa aaaaaaa", "b ab aab aaab"]
def lotB (ws : List Str) : Bool := decide ws.Nodup && ws.all (fun x => isL x && decide (1 ≤ x.length) && decide (x.length ≤ 8)) && decide (1 ≤ ws.length) && decide (ws.length ≤ 8)
theorem knowns_ok : ∀ s ∈ knowns, lotB (Txt.split s " ") = true ∧ s.length ≤ 100 := by decide +kernel
theorem lotB_ok {ws : List Str} (h : lotB ws = true) : LotOk ws 8 ∧ 1 ≤ ws.length ∧ ws.length ≤ 8 := by
  unfold lotB at h
  simp only [Bool.and_eq_true, decide_eq_true_eq, List.all_eq_true] at h
  obtain ⟨⟨⟨h1, h2⟩, h3⟩, h4⟩ := h
  exact ⟨⟨h1, fun x hx => ⟨(h2 x hx).1.1, (h2 x hx).1.2, by have := (h2 x hx).2; omega⟩⟩, h3, h4⟩
theorem knowns7 : ∀ s ∈ knowns, (Txt.split s " ").length ≤ 7 := by decide +kernel
theorem known_spec {n : Int} {Q : List Str → Int → Prop} (hn : n < 800000) (q : ∀ ws n', LotOk ws 8 → 1 ≤ ws.length → ws.length ≤ 7 → n' ≤ n + 1 → Q ws n') : m_law_known n Q := by
  unfold m_law_known
  dsimp only [bnd, ret, need, m_law_draw, atM]
  refine ⟨by decide, by decide, ⟨by omega, by omega, by omega⟩, fun d d0 d1 => ?_⟩
  obtain ⟨s, hs, hm⟩ := at_mem (xs := knowns) d0 d1
  obtain ⟨h1, h2⟩ := knowns_ok s hm
  obtain ⟨g1, g2, g3⟩ := lotB_ok h1
  exact ⟨s, hs, ⟨by decide, Nat.le_trans (show s.length + 2 ≤ 102 by omega) (by decide)⟩, q _ _ g1 g2 (knowns7 s hm) (by omega)⟩
end WH
namespace WH
open PySem PySem.Spec PyProof.Rows L2
open Enc (enc)
open EncL (encl)
/-! ### hulls from the left -/
def mm (ws : List Str) : List Nat → Prop := fun t => ∃ x ∈ ws, cd x = t
def wsum (ws : List Str) : Nat := (ws.map (·.length)).sum
theorem mm_mem {ws : List Str} {x : Str} : mm ws (cd x) ↔ x ∈ ws := ⟨fun ⟨y, h, e⟩ => by rwa [← cd_inj e], fun h => ⟨x, h, rfl⟩⟩
theorem sum_perm {a b : List Nat} (h : a.Perm b) : a.sum = b.sum := by
  induction h with
  | nil => rfl
  | cons x _ ih => rw [List.sum_cons, List.sum_cons, ih]
  | swap x y l => rw [List.sum_cons, List.sum_cons, List.sum_cons, List.sum_cons]; omega
  | trans _ _ ih1 ih2 => exact ih1.trans ih2
theorem wsum_perm {a b : List Str} (h : a.Perm b) : wsum a = wsum b := sum_perm (h.map _)
theorem mm_perm {a b : List Str} (h : a.Perm b) : mm a = mm b := by
  funext t
  exact propext ⟨fun ⟨x, hx, e⟩ => ⟨x, h.mem_iff.mp hx, e⟩, fun ⟨x, hx, e⟩ => ⟨x, h.mem_iff.mpr hx, e⟩⟩
theorem isW_iff {x : Str} : isW x = true ↔ isL x = true ∧ 1 ≤ x.length ∧ x.length ≤ 8 := by
  unfold isW
  simp only [Bool.and_eq_true, decide_eq_true_eq]
  exact ⟨fun h => ⟨h.2, h.1.1, h.1.2⟩, fun h => ⟨⟨h.2.1, h.2.2⟩, h.1⟩⟩
structure Wl (ws : List Str) : Prop where
  nd : ws.Nodup
  w : ∀ x ∈ ws, isW x = true
  hi : ws.length ≤ 8
theorem Good.wl {ws : List Str} (h : Good ws) : Wl ws := ⟨h.nd, h.w, h.hi⟩
theorem Wl.perm {ws us : List Str} (h : Wl ws) (p : us.Perm ws) : Wl us := ⟨p.nodup_iff.mpr h.nd, fun x hx => h.w x (p.mem_iff.mp hx), by rw [p.length_eq]; exact h.hi⟩
theorem Wl.l {ws : List Str} (h : Wl ws) : ∀ x ∈ ws, isL x = true := fun x hx => (isW_iff.mp (h.w x hx)).1
theorem Wl.sum {ws : List Str} (h : Wl ws) : wsum ws ≤ 64 := by
  have key : ∀ l : List Str, (∀ x ∈ l, isW x = true) → wsum l ≤ 8 * l.length := by
    intro l
    induction l with
    | nil => intro _; exact Nat.le_refl _
    | cons x l ih =>
      intro hl
      have a := (isW_iff.mp (hl x List.mem_cons_self)).2.2
      have b := ih fun y hy => hl y (List.mem_cons_of_mem _ hy)
      show x.length + wsum l ≤ 8 * (l.length + 1)
      omega
  have := key ws h.w
  have := h.hi
  omega
/-- what one word leaves of another one -/
theorem rest_cd (x y : Str) : cd (cutS y (some (x.length : Int)) none) = (cd y).drop (cd x).length := cut_from' y x
theorem Wl.cut {ws us : List Str} (h : Wl ws) {x y : Str} (hx : x ∈ ws) (hy : y ∈ ws) (ne : x ≠ y) (p : cd x <+: cd y) (nd : us.Nodup) (mem : ∀ w, w ∈ us ↔ (w = cutS y (some (x.length : Int)) none ∨ (w ∈ ws ∧ w ≠ y))) :
    Wl us ∧ wsum us < wsum ws := by
  obtain ⟨t, ht⟩ := p
  have hr : cd (cutS y (some (x.length : Int)) none) = t := by rw [rest_cd, ← ht, List.drop_left]
  have hL : ∀ z ∈ ws, isL z = true ∧ 1 ≤ z.length ∧ z.length ≤ 8 := fun z hz => isW_iff.mp (h.w z hz)
  have tne : t ≠ [] := fun e => ne (cd_inj (by rw [← ht, e, List.append_nil]))
  have ln : (cutS y (some (x.length : Int)) none).length + x.length = y.length := by
    have h1 := cd_len (cutS y (some (x.length : Int)) none)
    have h2 := cd_len x
    have h3 := cd_len y
    rw [hr] at h1
    rw [← ht, List.length_append] at h3
    omega
  have l1 : 1 ≤ (cutS y (some (x.length : Int)) none).length := by
    rw [← cd_len, hr]
    exact List.length_pos_iff.mpr tne
  have hx1 := (hL x hx).2.1
  have hy8 := (hL y hy).2.2
  have rw' : isW (cutS y (some (x.length : Int)) none) = true := isW_iff.mpr ⟨isL_lo (by omega) (hL y hy).1, l1, by omega⟩
  generalize er : cutS y (some (x.length : Int)) none = r at *
  have ndf : (ws.filter fun w => !decide (w = y)).Nodup := h.nd.filter _
  have memf : ∀ w, w ∈ (ws.filter fun w => !decide (w = y)) ↔ w ∈ ws ∧ w ≠ y := fun w => by
    rw [List.mem_filter]
    simp
  have sf : wsum (ws.filter fun w => !decide (w = y)) + y.length ≤ wsum ws := sum_filter_mem (·.length) _ ws y hy (by simp)
  have lf : (ws.filter fun w => !decide (w = y)).length + 1 ≤ ws.length := by
    have := List.length_filter_lt_length_iff_exists (p := fun w => !decide (w = y)) (l := ws) |>.mpr ⟨y, hy, by simp⟩
    omega
  have h8 := h.hi
  have wall : ∀ w ∈ us, isW w = true := fun w hw => by
    rcases (mem w).mp hw with rfl | hw
    · exact rw'
    · exact h.w w hw.1
  by_cases c : r ∈ (ws.filter fun w => !decide (w = y))
  · have pm : us.Perm (ws.filter fun w => !decide (w = y)) := perm_of_mem nd ndf fun w => by
      rw [mem, memf]
      exact ⟨fun q => q.elim (fun e => by rw [e]; exact (memf r).mp c) id, .inr⟩
    exact ⟨⟨nd, wall, by rw [pm.length_eq]; omega⟩, by rw [wsum_perm pm]; omega⟩
  · have pm : us.Perm (r :: (ws.filter fun w => !decide (w = y))) := perm_of_mem nd (List.nodup_cons.mpr ⟨c, ndf⟩) fun w => by
      rw [mem, List.mem_cons, memf]
    have e2 : wsum (r :: (ws.filter fun w => !decide (w = y))) = r.length + wsum (ws.filter fun w => !decide (w = y)) := rfl
    exact ⟨⟨nd, wall, by rw [pm.length_eq, List.length_cons]; omega⟩, by rw [wsum_perm pm, e2]; omega⟩
theorem cutL_ct {F : (List Nat → Prop) → Prop} (hF : ∀ C, F C → LeftFree C) {X0 : List Nat → Prop} {ws us : List Str} (c : CutF F X0 (mm ws)) {x y : Str} (hx : x ∈ ws) (hy : y ∈ ws) (ne : x ≠ y) (p : cd x <+: cd y) (mem : ∀ w, w ∈ us ↔ (w = cutS y (some (x.length : Int)) none ∨ (w ∈ ws ∧ w ≠ y))) : CutF F X0 (mm us) := by
  obtain ⟨t, ht⟩ := p
  have hr : cd (cutS y (some (x.length : Int)) none) = t := by rw [rest_cd, ← ht, List.drop_left]
  have tne : t ≠ [] := fun e => ne (cd_inj (by rw [← ht, e, List.append_nil]))
  refine c.stepL hF (x := cd x) (t := t) (mm_mem.mpr hx) (by rw [ht]; exact mm_mem.mpr hy) tne ?_ ?_ ?_
  · rintro w ⟨z, hz, rfl⟩
    rcases (mem z).mp hz with rfl | hz
    · exact .inl hr
    · exact .inr (mm_mem.mpr hz.1)
  · rintro w ⟨z, hz, rfl⟩ hn
    exact mm_mem.mpr ((mem z).mpr (.inr ⟨hz, fun e => hn (by rw [e, ht])⟩))
  · exact ⟨_, (mem _).mpr (.inl rfl), hr⟩
theorem rev_rev (x : Str) : revS (revS x) = x := cd_inj (by rw [revS_cd, revS_cd, List.reverse_reverse])
theorem mm_rev (ws : List Str) : mm (ws.map revS) = mir (mm ws) := by
  funext t
  apply propext
  constructor
  · rintro ⟨x, hx, rfl⟩
    obtain ⟨z, hz, rfl⟩ := List.mem_map.mp hx
    exact ⟨z, hz, by rw [revS_cd, List.reverse_reverse]⟩
  · rintro ⟨x, hx, e⟩
    exact ⟨revS x, List.mem_map.mpr ⟨x, hx, rfl⟩, by rw [revS_cd, e, List.reverse_reverse]⟩
theorem rev_inj {a b : Str} (h : revS a = revS b) : a = b := by rw [← rev_rev a, h, rev_rev]
theorem map_rev_rev (ws : List Str) : (ws.map revS).map revS = ws := by
  rw [List.map_map, show revS ∘ revS = id from funext rev_rev, List.map_id]
theorem isL_rev {x : Str} (h : isL x = true) : isL (revS x) = true := isL_iff.mpr fun c hc => isL_iff.mp h c (by
  have : c ∈ (cd x).reverse := by rw [← revS_cd]; exact hc
  exact List.mem_reverse.mp this)
theorem Wl.rev {ws : List Str} (h : Wl ws) : Wl (ws.map revS) := ⟨by
  refine List.pairwise_map.mpr (h.nd.imp fun n e => n (rev_inj e)), fun x hx => by
  obtain ⟨z, hz, rfl⟩ := List.mem_map.mp hx
  obtain ⟨a, b, c⟩ := isW_iff.mp (h.w z hz)
  exact isW_iff.mpr ⟨isL_rev a, by rw [revS_len]; exact b, by rw [revS_len]; exact c⟩, by rw [List.length_map]; exact h.hi⟩
theorem wsum_rev (ws : List Str) : wsum (ws.map revS) = wsum ws := by
  unfold wsum
  rw [List.map_map, show ((fun x : Str => x.length) ∘ revS) = fun x : Str => x.length from funext revS_len]
/-- the same, turned -/
theorem cutR_ct {F : (List Nat → Prop) → Prop} (hF : ∀ C, F C → RightFree C) {X0 : List Nat → Prop} {ws us : List Str} (c : CutF F X0 (mm ws)) {x y : Str} (hx : x ∈ ws.map revS) (hy : y ∈ ws.map revS) (ne : x ≠ y) (p : cd x <+: cd y) (mem : ∀ w, w ∈ us ↔ (w = cutS y (some (x.length : Int)) none ∨ (w ∈ ws.map revS ∧ w ≠ y))) : CutF F X0 (mm (us.map revS)) := by
  obtain ⟨t, ht⟩ := p
  have hr : cd (cutS y (some (x.length : Int)) none) = t := by rw [rest_cd, ← ht, List.drop_left]
  have tne : t ≠ [] := fun e => ne (cd_inj (by rw [← ht, e, List.append_nil]))
  have hx' : mm ws (cd x).reverse := by
    have := mm_mem.mpr hx
    rwa [mm_rev] at this
  have hy' : mm ws (cd y).reverse := by
    have := mm_mem.mpr hy
    rwa [mm_rev] at this
  refine c.stepR hF (x := (cd x).reverse) (t := t.reverse) hx' (by rw [← List.reverse_append, ht]; exact hy') (fun e => tne (List.reverse_eq_nil_iff.mp e)) ?_ ?_ ?_
  · rw [mm_rev]
    rintro w ⟨z, hz, e⟩
    rcases (mem z).mp hz with rfl | hz
    · rw [hr] at e
      exact .inl (by rw [e, List.reverse_reverse])
    · right
      have := mm_mem.mpr hz.1
      rw [mm_rev, e] at this
      unfold mir at this
      rwa [List.reverse_reverse] at this
  · rintro w ⟨z, hz, rfl⟩ hn
    rw [mm_rev]
    refine ⟨revS z, (mem _).mpr (.inr ⟨List.mem_map.mpr ⟨z, hz, rfl⟩, fun e => hn ?_⟩), revS_cd z⟩
    rw [← List.reverse_append, ht, ← e, revS_cd, List.reverse_reverse]
  · rw [mm_rev]
    exact ⟨_, (mem _).mpr (.inl rfl), by rw [hr, List.reverse_reverse]⟩
theorem lf_of {ws : List Str} (h : Wl ws) (p : ∀ x ∈ ws, ∀ y ∈ ws, cd x <+: cd y → x = y) : LeftFree (mm ws) := by
  refine ⟨?_, ?_⟩
  · rintro t ⟨x, hx, rfl⟩ e
    have := (isW_iff.mp (h.w x hx)).2.1
    rw [← cd_len, e] at this
    exact absurd this (by decide)
  · rintro s t ⟨x, hx, rfl⟩ ⟨y, hy, rfl⟩ q
    rw [p x hx y hy q]
/-- the hull of a kind, sorted -/
structure HullF (F : (List Nat → Prop) → Prop) (ws ys : List Str) : Prop where
  wl : Wl ys
  ct : CutF F (mm ws) (mm ys)
  fr : F (mm ys)
  so : sortedS ys = true
theorem HullF.same {F : (List Nat → Prop) → Prop} {ws us ys zs : List Str} (hF : (∀ C, F C → LeftFree C) ∨ (∀ C, F C → RightFree C)) (a : HullF F ws ys) (b : HullF F us zs) (p : us.Perm ws) : zs = ys := by
  have b' := b.ct
  rw [mm_perm p] at b'
  have e := a.ct.end b' a.fr b.fr hF
  refine sorted_same b.so a.so (perm_of_mem b.wl.nd a.wl.nd fun x => ?_)
  rw [← mm_mem, ← mm_mem]
  exact (e (cd x)).symm
end WH
namespace WH
open PySem PySem.Spec PyProof.Rows L2
open Enc (enc)
open EncL (encl)
/-! ### words, their ends, rows: in general -/
theorem cmpC_pure {α β : Type} {g : α → M (List β)} (h : α → List β) : ∀ {xs : List α} {n : Int} {Q : List β → Int → Prop}, (∀ x ∈ xs, ∀ n (R : List β → Int → Prop), R (h x) n → g x n R) → Q (xs.flatMap h) n → cmpC xs g n Q
  | [], n, Q, _, q => q
  | x :: xs, n, Q, e, q => by
    show g x n _
    refine e x List.mem_cons_self n _ ?_
    show cmpC xs g n _
    refine cmpC_pure h (fun y hy => e y (List.mem_cons_of_mem _ hy)) ?_
    show Q (h x ++ xs.flatMap h) n
    rwa [List.flatMap_cons] at q
theorem nd_len {α : Type} [DecidableEq α] : ∀ {l m : List α}, l.Nodup → (∀ x ∈ l, x ∈ m) → l.length ≤ m.length
  | [], m, _, _ => Nat.zero_le _
  | x :: l, m, h, s => by
    obtain ⟨h1, h2⟩ := List.nodup_cons.mp h
    have := nd_len (m := m.erase x) h2 fun y hy => (List.mem_erase_of_ne fun e => h1 (by rw [← e]; exact hy)).mpr (s y (List.mem_cons_of_mem _ hy))
    have hx := s x List.mem_cons_self
    rw [List.length_erase_of_mem hx] at this
    have := List.length_pos_of_mem hx
    rw [List.length_cons]
    omega
/-- what stands at the end of a word -/
def suf (ws : List Str) : List (List Nat) := ws.flatMap fun w => (List.range w.length).map fun k => (cd w).drop k
theorem suf_len (ws : List Str) : (suf ws).length = wsum ws := by
  unfold suf wsum
  induction ws with
  | nil => rfl
  | cons w ws ih => rw [List.flatMap_cons, List.length_append, ih, List.length_map, List.length_range]; rfl
theorem suf_mem {ws : List Str} {w : Str} (hw : w ∈ ws) {u r : List Nat} (e : cd w = u ++ r) (ne : r ≠ []) : r ∈ suf ws := by
  have h1 := congrArg List.length e
  rw [cd_len, List.length_append] at h1
  have h2 := List.length_pos_iff.mpr ne
  exact List.mem_flatMap.mpr ⟨w, hw, List.mem_map.mpr ⟨u.length, List.mem_range.mpr (by omega), by rw [e, List.drop_left]⟩⟩
theorem isL_of_cd {x y : Str} {u : List Nat} (h : isL y = true) (e : cd y = u ++ cd x) : isL x = true := isL_iff.mpr fun c hc => isL_iff.mp h c (by
  have hc : c ∈ cd x := hc
  show c ∈ cd y
  rw [e]
  exact List.mem_append_right _ hc)
theorem nat_of {k : Nat} {x : Int} (h : x ∈ intsUp 0 k) : ∃ i : Nat, x = i ∧ i < k := by
  unfold intsUp at h
  obtain ⟨i, h1, rfl⟩ := List.mem_map.mp h
  exact ⟨i, by omega, List.mem_range.mp h1⟩
theorem in_ups {k i : Nat} (h : i < k) : (i : Int) ∈ intsUp 0 k := by
  unfold intsUp
  exact List.mem_map.mpr ⟨i, List.mem_range.mpr h, by omega⟩
def gW (ws : List Str) (i : Int) : Str := ws.getD i.toNat ⟨#[]⟩
theorem gW_at {ws : List Str} {i : Nat} (h : i < ws.length) : atI ws (i : Int) = some (gW ws i) ∧ gW ws i = ws[i] := by
  have e : gW ws i = ws[i] := by
    unfold gW
    rw [Int.toNat_natCast, List.getD_eq_getElem?_getD, List.getElem?_eq_getElem h]
    rfl
  exact ⟨by rw [e]; exact atI_nat (List.getElem?_eq_getElem h), e⟩
theorem gW_mem {ws : List Str} {i : Nat} (h : i < ws.length) : gW ws i ∈ ws := by
  rw [(gW_at h).2]
  exact List.getElem_mem h
theorem pre_drop {a b : Str} (h : cd a <+: cd b) : cd b = cd a ++ cd (cutS b (some (a.length : Int)) none) := by
  obtain ⟨t, ht⟩ := h
  rw [rest_cd, ← ht, List.drop_left]
theorem nd_inj {ws : List Str} (h : ws.Nodup) {i j : Nat} (hi : i < ws.length) (hj : j < ws.length) (e : ws[i] = ws[j]) : i = j := by
  rcases Nat.lt_trichotomy i j with c | c | c
  · exact absurd e (List.pairwise_iff_getElem.mp h i j hi hj c)
  · exact c
  · exact absurd e.symm (List.pairwise_iff_getElem.mp h j i hj hi c)
theorem cd_nil_iff {x : Str} : cd x = [] ↔ x = "" := ⟨fun h => cd_inj h, fun h => by rw [h]; rfl⟩
theorem suf_len8 {ws : List Str} (h : Wl ws) {r : List Nat} (hr : r ∈ suf ws) : r.length ≤ 8 := by
  obtain ⟨w, hw, hr⟩ := List.mem_flatMap.mp hr
  obtain ⟨k, _, rfl⟩ := List.mem_map.mp hr
  have := (isW_iff.mp (h.w w hw)).2.2
  rw [List.length_drop, cd_len]
  omega
theorem mm_ne {ws : List Str} (h : Wl ws) : ∀ x, mm ws x → x ≠ [] := by
  rintro x ⟨w, hw, rfl⟩ e
  have := (isW_iff.mp (h.w w hw)).2.1
  have l := cd_len w
  rw [e] at l
  simp at l
  omega
theorem row_isL {ws : List Str} (h : Wl ws) : ∀ {a : List (List Nat)}, Row (mm ws) a → ∀ c ∈ a.flatten, c ∈ LET.cps.toList
  | [], _, c, hc => by simp at hc
  | x :: a, ha, c, hc => by
    rw [List.flatten_cons] at hc
    rcases List.mem_append.mp hc with hc | hc
    · obtain ⟨w, hw, rfl⟩ := ha.head
      exact isL_iff.mp (h.l w hw) c hc
    · exact row_isL h ha.tail c hc
theorem conf_isL {ws : List Str} (h : Wl ws) {z : Str} (c : Conf (mm ws) (cd z)) : isL z = true := by
  obtain ⟨x, y, a, b, hx, hy, ne, ha, hb, e1, e2⟩ := c
  refine isL_iff.mpr fun c hc => ?_
  have hc : c ∈ cd z := hc
  rw [← e1] at hc
  have := row_isL h (Row.cons hx ha) c (by rw [List.flatten_cons]; exact hc)
  exact this
/-! ### two readings, cuts, the free hull -/
def rowOf (ws : List Str) (r : List Nat) : List (List Nat) := r.map fun i => cd (ws.getD i ⟨#[]⟩)
theorem rowOf_codes (ws : List Str) (r : List Nat) : (rowOf ws r).flatten = codes ws r := rfl
theorem getS_at {ws : List Str} {i : Nat} (h : i < ws.length) : ws.getD i ⟨#[]⟩ = ws[i] := by
  rw [List.getD_eq_getElem?_getD, List.getElem?_eq_getElem h]
  rfl
theorem rowOf_row {ws : List Str} {r : List Nat} (h : ∀ i ∈ r, i < ws.length) : Row (mm ws) (rowOf ws r) := fun x hx => by
  obtain ⟨i, hi, rfl⟩ := List.mem_map.mp hx
  rw [getS_at (h i hi)]
  exact mm_mem.mpr (List.getElem_mem _)
theorem rowOf_inj {ws : List Str} (nd : ws.Nodup) : ∀ {r s : List Nat}, (∀ i ∈ r, i < ws.length) → (∀ i ∈ s, i < ws.length) → rowOf ws r = rowOf ws s → r = s
  | [], [], _, _, _ => rfl
  | [], j :: s, _, _, e => by cases e
  | i :: r, [], _, _, e => by cases e
  | i :: r, j :: s, h1, h2, e => by
    obtain ⟨e1, e2⟩ := List.cons.inj e
    dsimp only at e1
    have hi := h1 i List.mem_cons_self
    have hj := h2 j List.mem_cons_self
    rw [getS_at hi, getS_at hj] at e1
    rw [nd_inj nd hi hj (cd_inj e1), rowOf_inj nd (fun k hk => h1 k (List.mem_cons_of_mem _ hk)) (fun k hk => h2 k (List.mem_cons_of_mem _ hk)) e2]
theorem row_idx {ws : List Str} : ∀ {u : List (List Nat)}, Row (mm ws) u → ∃ r : List Nat, (∀ i ∈ r, i < ws.length) ∧ rowOf ws r = u
  | [], _ => ⟨[], fun i hi => by simp at hi, rfl⟩
  | x :: u, h => by
    obtain ⟨r, h1, h2⟩ := row_idx h.tail
    obtain ⟨w, hw, e⟩ := h.head
    obtain ⟨i, hi, rfl⟩ := List.getElem_of_mem hw
    refine ⟨i :: r, fun k hk => ?_, ?_⟩
    · rcases List.mem_cons.mp hk with rfl | hk
      · exact hi
      · exact h1 k hk
    · show cd (ws.getD i ⟨#[]⟩) :: rowOf ws r = _
      rw [getS_at hi, e, h2]
theorem Wl.len1 {ws : List Str} (h : Wl ws) : ∀ x ∈ ws, 1 ≤ x.length := fun x hx => (isW_iff.mp (h.w x hx)).2.1
theorem Wl.lenM {ws : List Str} (h : Wl ws) : ∀ x ∈ ws, 1 ≤ x.length ∧ x.length ≤ 1000 := fun x hx => ⟨h.len1 x hx, by have := (isW_iff.mp (h.w x hx)).2.2; omega⟩
end WH
namespace WH
open PySem PySem.Spec PyProof.Rows L2
open Enc (enc)
open EncL (encl)
/-! ### readings -/
theorem wl_head {ws : List Str} (hw : ∀ x ∈ ws, 1 ≤ x.length) {t : List Nat} (h : t ≠ []) : wl ws t = (ws.map (eOf ws t)).sum :: wl ws t.tail := by
  match t, h with
  | c :: t, _ =>
    rw [wl_cons]
    unfold ent
    rw [ent_eq ws hw ws hw]
    rfl
def castL (l : List Nat) : List Int := l.map fun (x : Nat) => (x : Int)
theorem castL_get {l : List Nat} {k v : Nat} (h : l[k]? = some v) : (castL l)[k]? = some (v : Int) := by
  unfold castL
  rw [List.getElem?_map, h]
  rfl
theorem wl_get (ws : List Str) {t : List Nat} {k : Nat} (h : k ≤ t.length) : (wl ws t)[k]? = some ((wl ws (t.drop k)).headD 0) := by
  have hl : k < (wl ws t).length := by rw [wl_len]; omega
  rw [List.getElem?_eq_getElem hl, ← wl_getD ws h, List.getD_eq_getElem?_getD, List.getElem?_eq_getElem hl]
  rfl
theorem sumI_cast (l : List Nat) : (castL l).sum = ((l.sum : Nat) : Int) := sum_cast l
theorem ups_rev (k : Nat) : (intsUp 0 (k + 1)).reverse = (k : Int) :: (intsUp 0 k).reverse := by
  unfold intsUp
  rw [List.range_succ, List.map_append, List.reverse_append]
  simp
end WH
namespace WH
open PySem PySem.Spec PyProof.Rows L2
open Enc (enc)
open EncL (encl)
theorem lim8 {k : Nat} (h : k ≤ 100) : k ≤ LIM := Nat.le_trans h (by decide)
end WH
namespace WH
open PySem PySem.Spec PyProof.Rows L2
open Enc (enc)
open EncL (encl)
/-! ### the least text with two readings -/
theorem heap_least {xs : List (T3 Int Str Str)} (h : HeapT xs) {t : T3 Int Str Str} (h0 : xs[0]? = some t) : ∀ s ∈ xs, le3 (i3 t) (i3 s) := by
  intro s hs
  obtain ⟨k, hk, rfl⟩ := List.getElem_of_mem hs
  have hf := from_of h
  have hk' : k < (xs.map i3).length := by rw [List.length_map]; exact hk
  have l := HeapFrom.least pre3 hf k hk'
  have hl : leq ((xs.map i3).getD 0 (0, "", "")) ((xs.map i3).getD k (0, "", "")) := l
  rw [List.getD_eq_getElem?_getD, List.getD_eq_getElem?_getD, List.getElem?_map, List.getElem?_map, h0, List.getElem?_eq_getElem hk] at hl
  exact lt3_le.mp hl
theorem le3_a {x y : I3} (h : le3 x y) : x.1 ≤ y.1 := by
  unfold le3 at h
  rcases h with h | h <;> omega
theorem heap_a {xs : List (T3 Int Str Str)} (h : HeapT xs) {t : T3 Int Str Str} (h0 : xs[0]? = some t) {s : T3 Int Str Str} (hs : s ∈ xs) : t.a ≤ s.a := le3_a (heap_least h h0 s hs)
theorem between_spec {x y : Str} {n : Int} {Q : Str → Int → Prop} (hx : x.length ≤ 1000) (hy : y.length ≤ 1000) (p : cd x <+: cd y) (q : Q (cutS y (some (x.length : Int)) none) n) : m_rest_between x y n Q := by
  unfold m_rest_between
  dsimp only [bnd, ret, need]
  exact ⟨fun _ => ⟨Nat.le_trans hx (by decide), Nat.le_trans hy (by decide), q⟩, fun e => absurd ((startswith_iff _ _).mpr p) (by rw [e]; decide)⟩
theorem pairs_spec {ws : List Str} {n : Int} {Q : List (Int × Int) → Int → Prop} (hl : ws.length ≤ 8) (q : ∀ l : List (Int × Int), l.length ≤ 64 → (∀ p ∈ l, ∃ i j : Nat, p = ((i : Int), (j : Int)) ∧ i < ws.length ∧ j < ws.length ∧ i ≠ j ∧ cd (gW ws i) <+: cd (gW ws j)) →
    (∀ i j : Nat, i < ws.length → j < ws.length → i ≠ j → cd (gW ws i) <+: cd (gW ws j) → ((i : Int), (j : Int)) ∈ l) → Q l n) : m_beginning_pairs ws n Q := by
  unfold m_beginning_pairs
  dsimp only [bnd, ret, need, turnM, andM, atM]
  rw [Int.toNat_natCast]
  have hu : (intsUp 0 ws.length).length = ws.length := intsUp_len
  refine ⟨⟨by omega, by omega⟩, by omega, ?_⟩
  refine cmpC_pure (fun b => (intsUp 0 ws.length).filterMap fun k => if b ≠ k ∧ Txt.startswith (gW ws k) (gW ws b) = true then some (b, k) else none) (fun b hb n R hR => ⟨⟨by omega, by omega⟩, by omega, ?_⟩) ?_
  · refine cmpW_pure (fun k => if b ≠ k ∧ Txt.startswith (gW ws k) (gW ws b) = true then some (b, k) else none) (fun k hk n R hR => ?_) hR
    obtain ⟨i, rfl, hi⟩ := nat_of hb
    obtain ⟨j, rfl, hj⟩ := nat_of hk
    refine ⟨fun c => ⟨_, (gW_at hj).1, _, (gW_at hi).1, fun d => ?_, fun d => ?_⟩, fun c => ⟨fun d => Bool.noConfusion d, fun _ => ?_⟩⟩
    · have c : ¬ (i : Int) = j := by simpa using c
      rw [if_pos ⟨c, d⟩] at hR
      exact hR
    · rw [if_neg fun e => by rw [e.2] at d; cases d] at hR
      exact hR
    · have c : (i : Int) = j := by simpa using c
      rw [if_neg fun e => e.1 c] at hR
      exact hR
  · refine q _ ?_ (fun p hp => ?_) fun i j hi hj ne pf => ?_
    · have key : ∀ l : List Int, (l.flatMap fun b => (intsUp 0 ws.length).filterMap fun k => if b ≠ k ∧ Txt.startswith (gW ws k) (gW ws b) = true then some (b, k) else none).length ≤ 8 * l.length := by
        intro l
        induction l with
        | nil => simp
        | cons b l ih =>
          rw [List.flatMap_cons, List.length_append, List.length_cons]
          have := List.length_filterMap_le (fun k => if b ≠ k ∧ Txt.startswith (gW ws k) (gW ws b) = true then some (b, k) else none) (intsUp 0 ws.length)
          omega
      have := key (intsUp 0 ws.length)
      omega
    · obtain ⟨b, hb, hp⟩ := List.mem_flatMap.mp hp
      obtain ⟨k, hk, e⟩ := List.mem_filterMap.mp hp
      obtain ⟨i, rfl, hi⟩ := nat_of hb
      obtain ⟨j, rfl, hj⟩ := nat_of hk
      split at e
      · rename_i g
        cases e
        exact ⟨i, j, rfl, hi, hj, fun z => g.1 (by rw [z]), (startswith_iff _ _).mp g.2⟩
      · cases e
    · exact List.mem_flatMap.mpr ⟨i, in_ups hi, List.mem_filterMap.mpr ⟨j, in_ups hj, if_pos ⟨fun z => ne (by omega), (startswith_iff _ _).mpr pf⟩⟩⟩
end WH
namespace WH
open PySem PySem.Spec PyProof.Rows L2
open Enc (enc)
open EncL (encl)
/-- what a rest leads to -/
structure Led (ws : List Str) (T r : Str) (l : List (Str × Str)) : Prop where
  len : l.length ≤ ws.length
  all : ∀ p ∈ l, ∃ w ∈ ws, (cd w = cd r ++ cd p.2 ∧ cd p.1 = cd T ++ cd p.2) ∨ (cd r = cd w ++ cd p.2 ∧ p.1 = T)
  less : ∀ w ∈ ws, ∀ r', cd w = cd r ++ r' → ∃ p ∈ l, cd p.2 = r' ∧ p.1.length ≤ T.length + r'.length
  more : ∀ w ∈ ws, ∀ r', cd r = cd w ++ r' → ∃ p ∈ l, cd p.2 = r' ∧ p.1.length ≤ T.length
theorem behind2_spec {ws : List Str} {T r : Str} {n : Int} {Q : List (Str × Str) → Int → Prop} (hw : ∀ x ∈ ws, x.length ≤ 8) (hl : ws.length ≤ 8) (hT : T.length ≤ 10000) (hr : r.length ≤ 8) (q : ∀ l, Led ws T r l → Q l n) : m_texts_behind ws T r n Q := by
  unfold m_texts_behind
  dsimp only [bnd, ret, need]
  refine forW_inv (fun (vs : List Str) (s : List (Str × Str)) m => m = n ∧ (∀ x ∈ vs, x ∈ ws) ∧ s.length + vs.length ≤ ws.length ∧ (∀ p ∈ s, ∃ w ∈ ws, (cd w = cd r ++ cd p.2 ∧ cd p.1 = cd T ++ cd p.2) ∨ (cd r = cd w ++ cd p.2 ∧ p.1 = T)) ∧
    (∀ w ∈ ws, w ∈ vs ∨ ((∀ r', cd w = cd r ++ r' → ∃ p ∈ s, cd p.2 = r' ∧ p.1.length ≤ T.length + r'.length) ∧ (∀ r', cd r = cd w ++ r' → ∃ p ∈ s, cd p.2 = r' ∧ p.1.length ≤ T.length)))) ⟨rfl, fun x h => h, by simp, fun p hp => by simp at hp, fun w h => .inl h⟩ ?_ ?_
  · rintro x vs s m Nx ⟨rfl, h1, h2, h3, h4⟩ hN
    have hx := h1 x List.mem_cons_self
    have x8 := hw x hx
    rw [List.length_cons] at h2
    have cx : ∀ y z : Str, (cutS y (some (z.length : Int)) none).length = y.length - z.length := fun y z => by
      have := len_lo (z := y) (c := (z.length : Int)) (by omega)
      simpa using this
    have add : ∀ p : Str × Str, ((cd x = cd r ++ cd p.2 ∧ cd p.1 = cd T ++ cd p.2) ∨ (cd r = cd x ++ cd p.2 ∧ p.1 = T ∧ ¬ cd r <+: cd x)) → Nx (s ++ [p]) m := by
      intro p hp
      refine hN _ _ ⟨rfl, fun z hz => h1 z (List.mem_cons_of_mem _ hz), by rw [List.length_append, List.length_singleton]; omega, fun p' hp' => ?_, fun w hw' => ?_⟩
      · rcases List.mem_append.mp hp' with hp' | hp'
        · exact h3 p' hp'
        · have e : p' = p := by simpa using hp'
          rw [e]
          exact ⟨x, hx, hp.imp id fun h => ⟨h.1, h.2.1⟩⟩
      · have up : ∀ r' k, (∃ p ∈ s, cd p.2 = r' ∧ p.1.length ≤ k) → ∃ p' ∈ s ++ [p], cd p'.2 = r' ∧ p'.1.length ≤ k := fun r' k ⟨p', a, b⟩ => ⟨p', List.mem_append_left _ a, b⟩
        rcases h4 w hw' with h | ⟨h5, h6⟩
        · rcases List.mem_cons.mp h with rfl | h
          · refine .inr ⟨fun r' e => ⟨p, by simp, ?_⟩, fun r' e => ⟨p, by simp, ?_⟩⟩
            · rcases hp with ⟨e1, e2⟩ | ⟨_, _, e3⟩
              · have : cd p.2 = r' := List.append_cancel_left (e1.symm.trans e)
                refine ⟨this, ?_⟩
                have := congrArg List.length e2
                rw [cd_len, List.length_append, cd_len] at this
                have h7 := congrArg List.length ‹cd p.2 = r'›
                omega
              · exact absurd ⟨r', e.symm⟩ e3
            · rcases hp with ⟨e1, e2⟩ | ⟨e1, e2, _⟩
              · -- the word is the rest
                have l1 := congrArg List.length e1
                have l2 := congrArg List.length e
                rw [List.length_append] at l1 l2
                have z1 : cd p.2 = [] := List.eq_nil_of_length_eq_zero (by omega)
                have z2 : r' = [] := List.eq_nil_of_length_eq_zero (by omega)
                refine ⟨by rw [z1, z2], ?_⟩
                rw [z1, List.append_nil] at e2
                rw [cd_inj e2]
                exact Nat.le_refl _
              · exact ⟨List.append_cancel_left (e1.symm.trans e), by rw [e2]; exact Nat.le_refl _⟩
          · exact .inl h
        · exact .inr ⟨fun r' e => up _ _ (h5 r' e), fun r' e => up _ _ (h6 r' e)⟩
    have sl : s.length ≤ LIM := Nat.le_trans (show s.length ≤ 8 by omega) (by decide)
    refine ⟨fun c => ⟨Nat.le_trans hr (by decide), Nat.le_trans x8 (by decide), ?_, Nat.le_trans hr (by decide), Nat.le_trans x8 (by decide), sl, ?_⟩, fun c => ⟨fun d => ⟨Nat.le_trans x8 (by decide), Nat.le_trans hr (by decide), sl, ?_⟩, fun d => ?_⟩⟩
    · refine Nat.le_trans (show _ ≤ 10008 by rw [cx]; omega) (by decide)
    · have pf := (startswith_iff _ _).mp c
      exact add (T ++ cutS x (some (r.length : Int)) none, cutS x (some (r.length : Int)) none) (.inl ⟨pre_drop pf, cd_app _ _⟩)
    · have pf := (startswith_iff _ _).mp d
      exact add (T, cutS r (some (x.length : Int)) none) (.inr ⟨pre_drop pf, rfl, (startswith_false _ _).mp c⟩)
    · have n1 := (startswith_false _ _).mp c
      have n2 := (startswith_false _ _).mp d
      refine hN _ _ ⟨rfl, fun z hz => h1 z (List.mem_cons_of_mem _ hz), by omega, h3, fun w hw' => ?_⟩
      rcases h4 w hw' with h | h
      · rcases List.mem_cons.mp h with rfl | h
        · exact .inr ⟨fun r' e => absurd ⟨r', e.symm⟩ n1, fun r' e => absurd ⟨r', e.symm⟩ n2⟩
        · exact .inl h
      · exact .inr h
  · rintro s m ⟨rfl, _, h2, h3, h4⟩
    simp only [List.length_nil] at h2
    refine q s ⟨by omega, h3, fun w hw' r' e => ?_, fun w hw' r' e => ?_⟩
    · exact ((h4 w hw').resolve_left (by simp)).1 r' e
    · exact ((h4 w hw').resolve_left (by simp)).2 r' e
end WH
namespace WH
open PySem PySem.Spec PyProof.Rows L2
open Enc (enc)
open EncL (encl)
def absS (q : List (T3 Int Str Str)) : List (List Nat × List Nat) := q.map fun p => (cd p.b, cd p.c)
theorem heap_sle {xs : List (T3 Int Str Str)} (h : HeapT xs) {t : T3 Int Str Str} (h0 : xs[0]? = some t) {s : T3 Int Str Str} (hs : s ∈ xs) (ht : t.a = ((t.b.length : Nat) : Int)) (es : s.a = ((s.b.length : Nat) : Int)) : sle (cd t.b) (cd s.b) := by
  have l1 := cd_len t.b
  have l2 := cd_len s.b
  rcases heap_least h h0 s hs with k | ⟨k, k2⟩
  · have k : t.a < s.a := k
    exact .inl (by omega)
  · have k : t.a = s.a := k
    refine .inr ⟨by omega, fun e => ?_⟩
    rcases k2 with k2 | ⟨k2, _⟩
    · have k2 : cd t.b < cd s.b := k2
      exact List.lt_irrefl _ (Std.lt_of_lt_of_le k2 (Std.le_of_lt e))
    · have k2 : t.b = s.b := k2
      rw [k2] at e
      exact List.lt_irrefl _ e
structure LsS (ws : List Str) (qu : List (T3 Int Str Str)) (seen : List Str) : Prop where
  hp : HeapT qu
  nd : seen.Nodup
  sm : ∀ r ∈ seen, cd r ∈ suf ws
  len : qu.length ≤ 64 + 8 * seen.length
  it : ∀ p ∈ qu, p.a = ((p.b.length : Nat) : Int) ∧ p.b.length ≤ 8 + 8 * seen.length ∧ Ahd (mm ws) (cd p.b) (cd p.c) ∧ (p.c ≠ "" → cd p.c ∈ suf ws)
  sr : ∃ L, SrchS (mm ws) (absS qu) (fun r => ∃ x ∈ seen, cd x = r) L
theorem LsS.seenW {ws : List Str} {qu : List (T3 Int Str Str)} {seen : List Str} (I : LsS ws qu seen) : seen.length ≤ wsum ws := by
  have nd : (seen.map cd).Nodup := List.pairwise_map.mpr (I.nd.imp fun n e => n (cd_inj e))
  have := nd_len nd (m := suf ws) fun x hx => by
    obtain ⟨r, hr, rfl⟩ := List.mem_map.mp hx
    exact I.sm r hr
  rw [List.length_map, suf_len] at this
  exact this
theorem LsS.seen64 {ws : List Str} (h : Wl ws) {qu : List (T3 Int Str Str)} {seen : List Str} (I : LsS ws qu seen) : seen.length ≤ 64 := by
  have nd : (seen.map cd).Nodup := List.pairwise_map.mpr (I.nd.imp fun n e => n (cd_inj e))
  have := nd_len nd (m := suf ws) fun x hx => by
    obtain ⟨r, hr, rfl⟩ := List.mem_map.mp hx
    exact I.sm r hr
  rw [List.length_map, suf_len] at this
  exact Nat.le_trans this h.sum
theorem leastS_spec {ws : List Str} {n : Int} {Q : Option Str → Int → Prop} (h : Wl ws) (q0 : Free (mm ws) → Q none n)
    (q1 : ∀ z, isL z = true → z.length ≤ 600 → z.length ≤ 8 + 8 * wsum ws → Conf (mm ws) (cd z) → (∀ S, Conf (mm ws) S → sle (cd z) S) → Q (some z) n) : m_least_text ws n Q := by
  have h8 := h.hi
  have w8 : ∀ x ∈ ws, x.length ≤ 8 := fun x hx => (isW_iff.mp (h.w x hx)).2.2
  unfold m_least_text
  dsimp only [bnd, ret, need, pc, turnM, atM]
  refine pairs_spec h8 fun l l64 l1 l2 => ⟨Nat.le_trans (show l.length ≤ 64 from l64) (by decide), ?_⟩
  let f : Int × Int → T3 Int Str Str := fun p => T3.mk (((gW ws p.2).length : Nat) : Int) (gW ws p.2) (cutS (gW ws p.2) (some ((gW ws p.1).length : Int)) none)
  refine cmpW_pure (fun p => some (f p)) (fun p hp n R hR => ⟨fun _ => ?_, fun e => Bool.noConfusion e⟩) ?_
  · obtain ⟨i, j, rfl, hi, hj, ne, pf⟩ := l1 p hp
    refine ⟨gW ws j, (gW_at hj).1, Nat.le_trans (w8 _ (gW_mem hj)) (by decide), gW ws j, (gW_at hj).1, gW ws i, (gW_at hi).1, gW ws j, (gW_at hj).1, ?_⟩
    exact between_spec (Nat.le_trans (w8 _ (gW_mem hi)) (by decide)) (Nat.le_trans (w8 _ (gW_mem hj)) (by decide)) pf hR
  have ef : l.filterMap (fun p => some (f p)) = l.map f := by
    rw [← List.filterMap_eq_map]
    rfl
  rw [ef]
  refine ⟨by rw [List.length_map]; omega, fun ys py hy => ?_⟩
  -- the words of a pair
  have pr : ∀ p ∈ l, ∃ x ∈ ws, ∃ y ∈ ws, ∃ t : List Nat, (f p).b = y ∧ cd y = cd x ++ t ∧ cd (f p).c = t ∧ t ≠ [] := by
    intro p hp
    obtain ⟨i, j, rfl, hi, hj, ne, pf⟩ := l1 p hp
    refine ⟨_, gW_mem hi, _, gW_mem hj, _, rfl, pre_drop pf, rfl, fun e => ne ?_⟩
    have e2 := pre_drop pf
    rw [e, List.append_nil] at e2
    have e3 := cd_inj e2
    rw [(gW_at hi).2, (gW_at hj).2] at e3
    exact (nd_inj h.nd hj hi e3).symm
  have I0 : LsS ws ys [] := by
    refine ⟨hy, List.nodup_nil, fun r hr => by simp at hr, by rw [py.length_eq, List.length_map]; simp only [List.length_nil]; omega, fun p hp => ?_, fun _ => [], ⟨⟨fun ⟨x, hx, _⟩ => by simp at hx, fun r ⟨x, hx, _⟩ => by simp at hx, fun r ⟨x, hx, _⟩ => by simp at hx⟩, fun x t hx hxt ne => ?_, fun r ⟨x, hx, _⟩ => by simp at hx⟩⟩
    · obtain ⟨p', hp', rfl⟩ := List.mem_map.mp (py.mem_iff.mp hp)
      obtain ⟨x, hx, y, hy', t, e1, e2, e3, e4⟩ := pr p' hp'
      refine ⟨rfl, ?_, ?_, fun _ => ?_⟩
      · rw [e1]
        exact w8 y hy'
      · rw [e1, e2, e3]
        exact Ahd.ini (mm_mem.mpr hx) (by rw [← e2]; exact mm_mem.mpr hy') e4
      · rw [e3]
        exact suf_mem hy' e2 e4
    · obtain ⟨u, hu, rfl⟩ := hx
      obtain ⟨v, hv, ev⟩ := hxt
      obtain ⟨i, hi, rfl⟩ := List.getElem_of_mem hu
      obtain ⟨j, hj, rfl⟩ := List.getElem_of_mem hv
      have gi := (gW_at hi).2
      have gj := (gW_at hj).2
      have hne : i ≠ j := fun e => ne (by
        subst e
        have : cd ws[i] ++ [] = cd ws[i] ++ t := by rw [List.append_nil]; exact ev
        exact (List.append_cancel_left this).symm)
      have pf : cd (gW ws i) <+: cd (gW ws j) := by rw [gi, gj, ev]; exact List.prefix_append _ _
      have hm := l2 i j hi hj hne pf
      refine .inr ⟨(cd (f ((i : Int), (j : Int))).b, cd (f ((i : Int), (j : Int))).c), List.mem_map.mpr ⟨_, py.mem_iff.mpr (List.mem_map.mpr ⟨_, hm, rfl⟩), rfl⟩, ?_, ?_⟩
      · have e2 := pre_drop pf
        rw [gi, gj] at e2
        show cd (cutS (gW ws j) (some ((gW ws i).length : Int)) none) = t
        rw [gi, gj]
        exact List.append_cancel_left (e2.symm.trans ev)
      · show sle (cd (gW ws j)) _
        rw [gj, ← ev]
        exact .refl _
  refine whileW_inv (fun (s : List (T3 Int Str Str) × List Str) m => m = n ∧ LsS ws s.1 s.2) (fun s => (64 - s.2.length) * 9 + s.1.length) ?_ ⟨rfl, I0⟩
  rintro ⟨qu, seen⟩ m W ⟨rfl, I⟩ hW
  dsimp only at I ⊢
  have s64 := I.seen64 h
  refine ⟨fun c => ?_, fun c => ?_⟩
  · have c : qu ≠ [] := by
      intro e
      rw [e] at c
      cases c
    have ql : qu.length ≤ LIM := Nat.le_trans (show qu.length ≤ 1000 by have := I.len; omega) (by decide)
    refine ⟨⟨c, ql, I.hp⟩, fun t zs t0 pz hz => ?_⟩
    dsimp only
    have tm : t ∈ qu := List.mem_of_getElem? t0
    obtain ⟨ta, tb, tA, tc⟩ := I.it t tm
    have zm : ∀ p ∈ zs, p ∈ qu := fun p hp => pz.mem_iff.mp (List.mem_cons_of_mem _ hp)
    have zl : zs.length + 1 = qu.length := by rw [← pz.length_eq]; rfl
    have lo : ∀ p ∈ qu, sle (cd t.b) (cd p.b) := fun p hp => heap_sle I.hp t0 hp ta (I.it p hp).1
    obtain ⟨L, S⟩ := I.sr
    have split : ∀ p' ∈ absS qu, p' = (cd t.b, cd t.c) ∨ p' ∈ absS zs := fun p' hp' => by
      obtain ⟨p, hp, rfl⟩ := List.mem_map.mp hp'
      rcases List.mem_cons.mp (pz.mem_iff.mpr hp) with rfl | hp
      · exact .inl rfl
      · exact .inr (List.mem_map.mpr ⟨p, hp, rfl⟩)
    refine ⟨fun e => ?_, fun e => ?_⟩
    · have e := of_decide_eq_true e
      have cf : Conf (mm ws) (cd t.b) := by
        rw [e] at tA
        exact tA.conf
      refine q1 _ (conf_isL h cf) (by omega) (by have := I.seenW; omega) cf fun S' hS' => ?_
      obtain ⟨p', hp', hl'⟩ := S.conf hS'
      obtain ⟨p, hp, rfl⟩ := List.mem_map.mp hp'
      exact (lo p hp).trans hl'
    · have e := of_decide_eq_false e
      have tne : cd t.c ≠ [] := fun z => e (cd_nil_iff.mp z)
      have tsuf := tc e
      have t8 := suf_len8 h tsuf
      rw [cd_len] at t8
      refine ⟨fun d => ⟨Nat.le_trans s64 (by decide), ?_⟩, fun d => ?_⟩
      · have d : t.c ∉ seen := by simpa using d
        refine behind2_spec w8 h8 (Nat.le_trans tb (by omega)) t8 fun nl led => ?_
        have nlen := led.len
        let g : Str × Str → T3 Int Str Str := fun p => T3.mk ((p.1.length : Nat) : Int) p.1 p.2
        have nfact : ∀ p ∈ nl, sle (cd t.b) (cd p.1) ∧ p.1.length ≤ t.b.length + 8 ∧ Ahd (mm ws) (cd p.1) (cd p.2) ∧ (p.2 ≠ "" → cd p.2 ∈ suf ws) := by
          intro p hp
          obtain ⟨w, hw, h1⟩ := led.all p hp
          have wl8 := w8 w hw
          have wl := cd_len w
          rcases h1 with ⟨e1, e2⟩ | ⟨e1, e2⟩
          · have l1 := congrArg List.length e1
            have l2 := congrArg List.length e2
            rw [List.length_append] at l1 l2
            rw [cd_len, cd_len] at l2
            refine ⟨by rw [e2]; exact .app _ _, by omega, ?_, fun z => suf_mem hw e1 fun y => z (cd_nil_iff.mp y)⟩
            rw [e2]
            exact tA.less (mm_mem.mpr hw) e1
          · refine ⟨by rw [e2]; exact .refl _, by rw [e2]; omega, ?_, fun z => ?_⟩
            · rw [e2]
              exact tA.more (mm_mem.mpr hw) e1
            · obtain ⟨w', hw', h2⟩ := List.mem_flatMap.mp tsuf
              obtain ⟨k, _, h3⟩ := List.mem_map.mp h2
              refine suf_mem hw' (u := (cd w').take k ++ cd w) ?_ fun y => z (cd_nil_iff.mp y)
              rw [List.append_assoc, ← e1, ← h3, List.take_append_drop]
        refine forW_inv (fun (r : List (Str × Str)) (s : List (T3 Int Str Str)) m' => m' = m ∧ ∃ dn, nl = dn ++ r ∧ s.Perm (zs ++ dn.map g) ∧ HeapT s) ⟨rfl, [], rfl, by simp, hz⟩ ?_ ?_
        · rintro x r s m' Nx ⟨rfl, dn, en, ps, hs⟩ hN
          have xm : x ∈ nl := by rw [en]; simp
          have sl : s.length ≤ 1000 := by
            rw [ps.length_eq, List.length_append, List.length_map]
            have := congrArg List.length en
            rw [List.length_append, List.length_cons] at this
            have := I.len
            omega
          refine ⟨Nat.le_trans (show x.1.length ≤ 10000 by have := (nfact x xm).2.1; omega) (by decide), ⟨Nat.le_trans sl (by decide), hs⟩, fun us pu hu => hN _ _ ⟨rfl, dn ++ [x], by rw [en, List.append_assoc]; rfl, ?_, hu⟩⟩
          refine pu.trans ?_
          rw [List.map_append, ← List.append_assoc]
          exact ps.append_right _
        · rintro s m' ⟨rfl, dn, en, ps, hs⟩
          rw [List.append_nil] at en
          subst en
          rw [if_neg d]
          have mem : ∀ p ∈ s, p ∈ zs ∨ ∃ x ∈ nl, g x = p := fun p hp => by
            rcases List.mem_append.mp (ps.mem_iff.mp hp) with h1 | h1
            · exact .inl h1
            · obtain ⟨x, hx, e⟩ := List.mem_map.mp h1
              exact .inr ⟨x, hx, e⟩
          have put : ∀ x ∈ nl, (cd x.1, cd x.2) ∈ absS s := fun x hx => List.mem_map.mpr ⟨g x, ps.mem_iff.mpr (List.mem_append_right _ (List.mem_map.mpr ⟨x, hx, rfl⟩)), rfl⟩
          have keep : ∀ p' ∈ absS zs, p' ∈ absS s := fun p' hp' => by
            obtain ⟨p, hp, rfl⟩ := List.mem_map.mp hp'
            exact List.mem_map.mpr ⟨p, ps.mem_iff.mpr (List.mem_append_left _ hp), rfl⟩
          have st := S.toClS.step (q' := absS s) (p := (cd t.b, cd t.c)) (fun p' hp' => (split p' hp').imp id (keep p')) (fun ⟨x, hx, ex⟩ => d (by rw [← cd_inj ex]; exact hx)) tne
            (fun w r' ⟨v, hv, ev⟩ er => by
              obtain ⟨p, hp, e1, e2⟩ := led.more v hv r' (by rw [ev]; exact er)
              refine ⟨_, put p hp, e1, ?_⟩
              obtain ⟨_, _, ⟨_, a2⟩ | ⟨_, a2⟩⟩ := led.all p hp
              · have l := congrArg List.length a2
                rw [List.length_append, cd_len, cd_len] at l
                have : cd p.2 = [] := List.eq_nil_of_length_eq_zero (by omega)
                rw [this, List.append_nil] at a2
                show sle (cd p.1) (cd t.b)
                rw [a2]
                exact .refl _
              · show sle (cd p.1) (cd t.b)
                rw [a2]
                exact .refl _)
            (fun w r' ⟨v, hv, ev⟩ er => by
              obtain ⟨p, hp, e1, e2⟩ := led.less v hv r' (by rw [ev]; exact er)
              refine ⟨_, put p hp, e1, ?_⟩
              show sle (cd p.1) (cd t.b ++ r')
              obtain ⟨_, _, ⟨_, a2⟩ | ⟨_, a2⟩⟩ := led.all p hp
              · rw [a2, e1]
                exact .refl _
              · rw [a2]
                exact .app _ _)
          obtain ⟨c1, c2⟩ := st
          have esn : (fun r => r = cd t.c ∨ ∃ x ∈ seen, cd x = r) = (fun r => ∃ x ∈ seen ++ [t.c], cd x = r) := by
            funext r
            apply propext
            constructor
            · rintro (e | ⟨x, hx, e⟩)
              · exact ⟨t.c, by simp, e.symm⟩
              · exact ⟨x, List.mem_append_left _ hx, e⟩
            · rintro ⟨x, hx, e⟩
              rcases List.mem_append.mp hx with hx | hx
              · exact .inr ⟨x, hx, e⟩
              · have : x = t.c := by simpa using hx
                exact .inl (by rw [← e, this])
          have sl : s.length = zs.length + nl.length := by rw [ps.length_eq, List.length_append, List.length_map]
          have I' : LsS ws s (seen ++ [t.c]) := by
            refine ⟨hs, ?_, fun r hr => ?_, ?_, fun p hp => ?_, _, ⟨esn ▸ c1, fun x tt hx hxt ne => ?_, fun r hr p' hp' => ?_⟩⟩
            · rw [List.nodup_append]
              exact ⟨I.nd, by simp, fun a ha b hb e => d (by
                have hb : b = t.c := by simpa using hb
                rw [← hb, ← e]
                exact ha)⟩
            · rcases List.mem_append.mp hr with hr | hr
              · exact I.sm r hr
              · have : r = t.c := by simpa using hr
                rw [this]
                exact tsuf
            · have := I.len
              rw [List.length_append, List.length_singleton]
              omega
            · rw [List.length_append, List.length_singleton]
              rcases mem p hp with hp | ⟨x, hx, rfl⟩
              · obtain ⟨a1, a2, a3, a4⟩ := I.it p (zm p hp)
                exact ⟨a1, by omega, a3, a4⟩
              · obtain ⟨b1, b2, b3, b4⟩ := nfact x hx
                exact ⟨rfl, by show x.1.length ≤ _; omega, b3, b4⟩
            · have := c2 tt _ (S.ini x tt hx hxt ne)
              rw [esn] at this
              exact this
            · obtain ⟨p, hp, rfl⟩ := List.mem_map.mp hp'
              have pb : sle (cd t.b) (cd p.b) := by
                rcases mem p hp with hp | ⟨x, hx, rfl⟩
                · exact lo p (zm p hp)
                · exact (nfact x hx).1
              show sle (if r = cd t.c then cd t.b else L r) (cd p.b)
              split
              · exact pb
              · rename_i er
                obtain ⟨x, hx, ex⟩ := hr
                rcases List.mem_append.mp hx with hx | hx
                · exact (S.low r ⟨x, hx, ex⟩ _ (List.mem_map.mpr ⟨t, tm, rfl⟩)).trans pb
                · have : x = t.c := by simpa using hx
                  exact absurd (by rw [← ex, this]) er
          have s64' := I'.seen64 h
          rw [List.length_append, List.length_singleton] at s64'
          refine hW _ _ ⟨rfl, I'⟩ ?_
          dsimp only
          rw [List.length_append, List.length_singleton]
          omega
      · have d : t.c ∈ seen := by simpa using d
        have low1 := S.low (cd t.c) ⟨t.c, d, rfl⟩ _ (List.mem_map.mpr ⟨t, tm, rfl⟩)
        obtain ⟨c1, c2⟩ := S.toClS.drop (q' := absS zs) (p := (cd t.b, cd t.c)) split ⟨t.c, d, rfl⟩ low1
        refine hW _ _ ⟨rfl, hz, I.nd, I.sm, by have := I.len; dsimp only; omega, fun p hp => I.it p (zm p hp), L, ⟨c1, fun x tt hx hxt ne => c2 _ _ (S.ini x tt hx hxt ne), fun r hr p' hp' => ?_⟩⟩ ?_
        · obtain ⟨p, hp, rfl⟩ := List.mem_map.mp hp'
          exact S.low r hr _ (List.mem_map.mpr ⟨p, zm p hp, rfl⟩)
        · dsimp only
          omega
  · have c : qu = [] := by
      cases qu with
      | nil => rfl
      | cons a b => cases c
    subst c
    obtain ⟨L, S⟩ := I.sr
    exact q0 (S.free (mm_ne h))
theorem least_spec {ws : List Str} {n : Int} {Q : Option Str → Int → Prop} (h : Wl ws) (q0 : Free (mm ws) → Q none n)
    (q1 : ∀ z, isL z = true → z.length ≤ 600 → Conf (mm ws) (cd z) → (∀ S, Conf (mm ws) S → z.length ≤ S.length) → Q (some z) n) : m_least_text ws n Q :=
  leastS_spec h q0 fun z a b _ c d => q1 z a b c fun S hS => by
    have := (d S hS).len
    rwa [cd_len] at this
end WH
namespace WH
open PySem PySem.Spec PyProof.Rows L2
open Enc (enc)
open EncL (encl)
theorem made_last {X : List Nat → Prop} {t : List Nat} (h : Made X t) (ne : t ≠ []) : ∃ s x, Made X s ∧ X x ∧ t = s ++ x := by
  induction h with
  | nil => exact absurd rfl ne
  | @app x t hx ht ih =>
    by_cases c : t = []
    · subst c
      exact ⟨[], x, .nil, hx, by simp⟩
    · obtain ⟨s, y, h1, h2, h3⟩ := ih c
      exact ⟨x ++ s, y, .app hx h1, h2, by rw [h3, List.append_assoc]⟩
theorem is_made_spec {ws : List Str} {z : Str} {n : Int} {Q : Bool → Int → Prop} (hw : ∀ x ∈ ws, 1 ≤ x.length ∧ x.length ≤ 1000) (hl : ws.length ≤ 1000) (hz : z.length ≤ 100000) (q : ∀ b, (b = true ↔ Made (mm ws) (cd z)) → Q b n) : m_is_made ws z n Q := by
  have zl := cd_len z
  unfold m_is_made
  dsimp only [bnd, ret, need, pc, turnM, atM]
  refine ⟨Nat.le_trans hz (by decide), ⟨by omega, by omega, by omega, by omega⟩, ?_⟩
  rw [show ((z.length : Int) + 1 - 1).toNat = z.length by omega]
  have ups : ∀ (k : Nat) (m : Nat), intsUp (k : Int) (m + 1) = (k : Int) :: intsUp ((k + 1 : Nat) : Int) m := fun k m => by
    unfold intsUp
    rw [List.range_succ_eq_map, List.map_cons, List.map_map]
    refine congr (congrArg _ (by simp)) (List.map_congr_left fun i _ => ?_)
    simp only [Function.comp]
    push_cast
    omega
  refine forW_inv (fun r (s : List Bool) m => m = n ∧ ∃ k, 1 ≤ k ∧ k + r.length = z.length + 1 ∧ r = intsUp (k : Int) r.length ∧ s.length = k ∧ ∀ j, j < k → ∃ b, s[j]? = some b ∧ (b = true ↔ Made (mm ws) ((cd z).take j))) ⟨rfl, 1, Nat.le_refl 1, by rw [intsUp_len]; omega, by rw [intsUp_len]; rfl, rfl, fun j hj => by
    obtain rfl : j = 0 := by omega
    exact ⟨true, rfl, fun _ => .nil, fun _ => rfl⟩⟩ ?_ ?_
  · rintro x r s m Nx ⟨rfl, k, h0, h1, h2, h3, h4⟩ hN
    rw [List.length_cons] at h1 h2
    rw [ups] at h2
    obtain ⟨rfl, h5⟩ := List.cons.inj h2
    refine ⟨Nat.le_trans hl (by decide), ?_⟩
    have key : ∀ w ∈ ws, ∃ b, (b = true ↔ (w.length ≤ k ∧ fit w ((cd z).drop (k - w.length)) = true ∧ Made (mm ws) ((cd z).take (k - w.length)))) ∧ ∀ n (R : Bool → Int → Prop), R b n → m_ends_with w z (k : Int) s n R := by
      intro w hw'
      obtain ⟨w1, w2⟩ := hw w hw'
      by_cases c : w.length ≤ k
      · obtain ⟨b, b1, b2⟩ := h4 (k - w.length) (by omega)
        refine ⟨fit w ((cd z).drop (k - w.length)) && b, by rw [Bool.and_eq_true, b2]; exact ⟨fun h => ⟨c, h⟩, fun h => h.2⟩, fun n R hR => ?_⟩
        unfold m_ends_with
        dsimp only [bnd, ret, need, andM, atM]
        have e1 : (k : Int) - (w.length : Nat) = ((k - w.length : Nat) : Int) := by omega
        rw [e1, starts_at (by omega) w1]
        refine ⟨Nat.le_trans w2 (by decide), fun _ => ⟨fun f => ⟨b, atI_nat b1, ?_⟩, fun f => ?_⟩, fun e => absurd (show (0 : Int) ≤ ((k - w.length : Nat) : Int) by omega) (of_decide_eq_false e)⟩
        · rw [f, Bool.true_and] at hR
          exact hR
        · rw [f, Bool.false_and] at hR
          exact hR
      · refine ⟨false, ⟨fun h => Bool.noConfusion h, fun h => absurd h.1 c⟩, fun n R hR => ?_⟩
        unfold m_ends_with
        dsimp only [bnd, ret, need, andM, atM]
        exact ⟨Nat.le_trans w2 (by decide), fun e => absurd (of_decide_eq_true e) (by omega), fun _ => hR⟩
    have ch : ∃ f : Str → Bool, ∀ w ∈ ws, (f w = true ↔ (w.length ≤ k ∧ fit w ((cd z).drop (k - w.length)) = true ∧ Made (mm ws) ((cd z).take (k - w.length)))) ∧ ∀ n (R : Bool → Int → Prop), R (f w) n → m_ends_with w z (k : Int) s n R := by
      refine ⟨fun w => if h : w ∈ ws then Classical.choose (key w h) else false, fun w h => ?_⟩
      dsimp only
      rw [dif_pos h]
      exact Classical.choose_spec (key w h)
    obtain ⟨f, hf⟩ := ch
    refine cmpW_pure (fun w => some (f w)) (fun w hw' n R hR => ⟨fun _ => (hf w hw').2 _ _ hR, fun e => Bool.noConfusion e⟩) ?_
    have ef : ws.filterMap (fun w => some (f w)) = ws.map f := by
      rw [← List.filterMap_eq_map]
      rfl
    rw [ef]
    refine ⟨Nat.le_trans (show s.length ≤ 100001 by omega) (by decide), hN _ _ ⟨rfl, k + 1, by omega, by omega, h5, by rw [List.length_append, List.length_singleton, h3], fun j hj => ?_⟩⟩
    by_cases c : j = k
    · subst c
      refine ⟨(ws.map f).any id, by rw [List.getElem?_append_right (by omega), h3, Nat.sub_self]; rfl, ?_⟩
      rw [List.any_eq_true]
      constructor
      · rintro ⟨b, hb, e⟩
        obtain ⟨w, hw', rfl⟩ := List.mem_map.mp hb
        obtain ⟨c1, c2, c3⟩ := (hf w hw').1.mp e
        unfold fit at c2
        have c2 := eq_of_beq c2
        have e2 : (cd z).take j = (cd z).take (j - w.length) ++ cd w := by
          conv => lhs; rw [show j = (j - w.length) + w.length by omega]
          rw [List.take_add, c2]
        rw [e2]
        exact c3.cat (.one (mm_mem.mpr hw'))
      · intro hm
        match Nat.eq_zero_or_pos j with
        | .inl e =>
          omega
        | .inr jp =>
          obtain ⟨u, x, m1, m2, m3⟩ := made_last hm fun e => by
            have := congrArg List.length e
            rw [List.length_take, zl, List.length_nil] at this
            omega
          obtain ⟨w, hw', rfl⟩ := m2
          have wl' := cd_len w
          have l1 := congrArg List.length m3
          rw [List.length_take, List.length_append, wl'] at l1
          have eu : u = (cd z).take (j - w.length) := by
            have := congrArg (List.take u.length) m3
            rw [List.take_left, List.take_take] at this
            rw [← this]
            congr 1
            omega
          refine ⟨f w, List.mem_map.mpr ⟨w, hw', rfl⟩, (hf w hw').1.mpr ⟨by omega, ?_, by rw [← eu]; exact m1⟩⟩
          unfold fit
          have e3 : ((cd z).drop (j - w.length)).take w.length = cd w := by
            have e4 : ((cd z).take j).drop (j - w.length) = cd w := by
              rw [m3, eu]
              have : ((cd z).take (j - w.length)).length = j - w.length := by rw [List.length_take]; omega
              conv => lhs; arg 1; rw [← this]
              rw [List.drop_left]
            rw [List.drop_take] at e4
            rwa [show j - (j - w.length) = w.length by omega] at e4
          rw [e3]
          exact beq_self_eq_true _
    · obtain ⟨b, b1, b2⟩ := h4 j (by omega)
      exact ⟨b, by rw [List.getElem?_append_left (by omega)]; exact b1, b2⟩
  · rintro s m ⟨rfl, k, h0, h1, h2, h3, h4⟩
    simp only [List.length_nil] at h1
    obtain ⟨b, b1, b2⟩ := h4 z.length (by omega)
    rw [List.take_of_length_le (by omega)] at b2
    exact ⟨Nat.le_trans hz (by decide), b, atI_nat b1, q b b2⟩
end WH
namespace WH
open PySem PySem.Spec PyProof.Rows L2
open Enc (enc)
open EncL (encl)
/-! ### rests, and whether texts are read in one way -/
def btw (x y : Str) : Str := if Txt.startswith y x = true then cutS y (some (x.length : Int)) none else if Txt.startswith x y = true then cutS x (some (y.length : Int)) none else ""
theorem btw_less {x y : Str} {r : List Nat} (e : cd y = cd x ++ r) : cd (btw x y) = r := by
  have pf : cd x <+: cd y := ⟨r, e.symm⟩
  unfold btw
  rw [if_pos ((startswith_iff _ _).mpr pf)]
  exact List.append_cancel_left ((pre_drop pf).symm.trans e)
theorem btw_more {x y : Str} {r : List Nat} (e : cd x = cd y ++ r) : cd (btw x y) = r := by
  have pf : cd y <+: cd x := ⟨r, e.symm⟩
  unfold btw
  by_cases c : Txt.startswith y x = true
  · have p2 := (startswith_iff _ _).mp c
    have l1 := pf.length_le
    have l2 := p2.length_le
    have e2 : cd x = cd y := p2.eq_of_length (by omega)
    rw [if_pos c]
    have z1 : r = [] := by
      rw [e2] at e
      have : cd y ++ [] = cd y ++ r := by rw [List.append_nil]; exact e
      exact (List.append_cancel_left this).symm
    rw [z1]
    have := pre_drop p2
    rw [e2] at this
    have : cd y ++ [] = cd y ++ cd (cutS y (some (x.length : Int)) none) := by rw [List.append_nil]; exact this
    exact (List.append_cancel_left this).symm
  · rw [if_neg c, if_pos ((startswith_iff _ _).mpr pf)]
    exact List.append_cancel_left ((pre_drop pf).symm.trans e)
theorem btw_cases (x y : Str) : btw x y = "" ∨ cd y = cd x ++ cd (btw x y) ∨ cd x = cd y ++ cd (btw x y) := by
  unfold btw
  split
  · rename_i c
    exact .inr (.inl (pre_drop ((startswith_iff _ _).mp c)))
  · split
    · rename_i c
      exact .inr (.inr (pre_drop ((startswith_iff _ _).mp c)))
    · exact .inl rfl
/-- what stands at the end of a word, and is not all of it -/
def psl (ws : List Str) : List (List Nat) := ws.flatMap fun w => (List.range (w.length - 1)).map fun k => (cd w).drop (k + 1)
theorem psl_len {ws : List Str} (h : Wl ws) : (psl ws).length ≤ 56 := by
  have key : ∀ l : List Str, (∀ x ∈ l, x.length ≤ 8) → (psl l).length ≤ 7 * l.length := by
    intro l
    induction l with
    | nil => intro _; simp [psl]
    | cons w l ih =>
      intro hl
      have a := hl w List.mem_cons_self
      have b := ih fun x hx => hl x (List.mem_cons_of_mem _ hx)
      unfold psl at b ⊢
      rw [List.flatMap_cons, List.length_append, List.length_map, List.length_range, List.length_cons]
      omega
  have := key ws fun x hx => (isW_iff.mp (h.w x hx)).2.2
  have := h.hi
  omega
theorem psl_mem {ws : List Str} {w : Str} (hw : w ∈ ws) {u r : List Nat} (e : cd w = u ++ r) (un : u ≠ []) (rn : r ≠ []) : r ∈ psl ws := by
  have h1 := congrArg List.length e
  rw [cd_len, List.length_append] at h1
  have h2 := List.length_pos_iff.mpr un
  have h3 := List.length_pos_iff.mpr rn
  exact List.mem_flatMap.mpr ⟨w, hw, List.mem_map.mpr ⟨u.length - 1, List.mem_range.mpr (by omega), by rw [show u.length - 1 + 1 = u.length by omega, e, List.drop_left]⟩⟩
theorem psl_of {ws : List Str} {r : List Nat} (h : r ∈ psl ws) : ∃ w ∈ ws, ∃ u, u ≠ [] ∧ r ≠ [] ∧ cd w = u ++ r := by
  obtain ⟨w, hw, h⟩ := List.mem_flatMap.mp h
  obtain ⟨k, hk, rfl⟩ := List.mem_map.mp h
  have := List.mem_range.mp hk
  have l := cd_len w
  refine ⟨w, hw, (cd w).take (k + 1), fun e => ?_, fun e => ?_, (List.take_append_drop _ _).symm⟩
  · have := congrArg List.length e
    rw [List.length_take, l, List.length_nil] at this
    omega
  · have := congrArg List.length e
    rw [List.length_drop, l, List.length_nil] at this
    omega
theorem psl_len8 {ws : List Str} (h : Wl ws) {r : Str} (hr : cd r ∈ psl ws) : r.length ≤ 8 := by
  obtain ⟨w, hw, u, _, _, e⟩ := psl_of hr
  have := congrArg List.length e
  rw [cd_len, List.length_append, cd_len] at this
  have := (isW_iff.mp (h.w w hw)).2.2
  omega
/-- a rest that can be come to -/
def Rst (ws : List Str) (r : Str) : Prop := cd r ∈ psl ws ∧ ∃ T, Ahd (mm ws) T (cd r)
theorem Rst.next {ws : List Str} (h : Wl ws) {r w : Str} (hr : Rst ws r) (hw : w ∈ ws) : btw r w = "" ∨ Rst ws (btw r w) := by
  obtain ⟨h1, T, hT⟩ := hr
  obtain ⟨v, hv, u, un, rn, e⟩ := psl_of h1
  by_cases z : btw r w = ""
  · exact .inl z
  · have zn : cd (btw r w) ≠ [] := fun y => z (cd_nil_iff.mp y)
    rcases btw_cases r w with c | c | c
    · exact .inl c
    · exact .inr ⟨psl_mem hw c rn zn, _, hT.less (mm_mem.mpr hw) c⟩
    · refine .inr ⟨psl_mem hv (u := u ++ cd w) (by rw [e, c, List.append_assoc]) (fun y => un (List.append_eq_nil_iff.mp y).1) zn, _, hT.more (mm_mem.mpr hw) c⟩
structure RstAll (ws ys : List Str) : Prop where
  nd : ys.Nodup
  ok : ∀ r ∈ ys, Rst ws r
  ini : ∀ x ∈ ws, ∀ y ∈ ws, ∀ t : List Nat, cd y = cd x ++ t → t ≠ [] → ∃ r ∈ ys, cd r = t
  nx : ∀ r ∈ ys, ∀ w ∈ ws, btw r w = "" ∨ btw r w ∈ ys
theorem RstAll.free {ws ys : List Str} (h : Wl ws) (r : RstAll ws ys) : Free (mm ws) ↔ ∀ z ∈ ys, z ∉ ws := by
  constructor
  · intro F z hz hw
    obtain ⟨_, T, hT⟩ := r.ok z hz
    exact F.noConf T (hT.more (r' := []) (mm_mem.mpr hw) (by rw [List.append_nil])).conf
  · intro no
    have S : Srch (mm ws) [] (fun t => ∃ z ∈ ys, cd z = t) (fun _ => 0) := by
      refine ⟨⟨fun ⟨z, hz, e⟩ => ?_, fun t ⟨z, hz, e⟩ w r' ⟨v, hv, ev⟩ er => ?_, fun t ⟨z, hz, e⟩ w r' ⟨v, hv, ev⟩ er => ?_⟩, fun x t ⟨u, hu, eu⟩ ⟨v, hv, ev⟩ tn => ?_, fun t _ p hp => absurd hp List.not_mem_nil⟩
      · obtain ⟨_, _, _, _, rn, _⟩ := psl_of (r.ok z hz).1
        exact rn e
      · have eb : cd (btw z v) = r' := btw_more (by rw [e, ev, er])
        rcases r.nx z hz v hv with h1 | h1
        · rw [h1] at eb
          have eb : r' = [] := eb.symm
          subst eb
          refine absurd hv (fun hv => no z hz ?_)
          have : z = v := cd_inj (by rw [e, ev, er, List.append_nil])
          rw [this]
          exact hv
        · exact .inl ⟨⟨_, h1, eb⟩, Nat.zero_le _⟩
      · have eb : cd (btw z v) = r' := btw_less (by rw [e, ev, er])
        rcases r.nx z hz v hv with h1 | h1
        · rw [h1] at eb
          have eb : r' = [] := eb.symm
          subst eb
          refine absurd hv (fun hv => no z hz ?_)
          have : z = v := cd_inj (by rw [e, ev, er, List.append_nil])
          rw [this]
          exact hv
        · exact .inl ⟨⟨_, h1, eb⟩, Nat.zero_le _⟩
      · obtain ⟨z, hz, e⟩ := r.ini u hu v hv t (by rw [ev, eu]) tn
        exact .inl ⟨⟨z, hz, e⟩, Nat.zero_le _⟩
    exact S.free (mm_ne h)
end WH
namespace WH
open PySem PySem.Spec PyProof.Rows L2
open Enc (enc)
open EncL (encl)
theorem Rst.l {ws : List Str} (h : Wl ws) {r : Str} (hr : Rst ws r) : isL r = true := by
  obtain ⟨w, hw, u, _, _, e⟩ := psl_of hr.1
  exact isL_of_cd (h.l w hw) e
theorem rest_eq {x y : Str} {t : List Nat} (e : cd y = cd x ++ t) : cd (cutS y (some (x.length : Int)) none) = t := by
  rw [rest_cd, e, List.drop_left]
theorem lrests_spec {ws : List Str} {n : Int} {Q : List Str × Bool → Int → Prop} (h : Wl ws) (q : ∀ ys b, RstAll ws ys → (b = true ↔ ∃ z ∈ ys, z ∈ ws) → Q (ys, b) n) : m_law_rests ws n Q := by
  have h8 := h.hi
  have w8 : ∀ x ∈ ws, x.length ≤ 8 := fun x hx => (isW_iff.mp (h.w x hx)).2.2
  have lk : ∀ {k : Nat}, k ≤ 1000 → k ≤ LIM := fun hk => Nat.le_trans hk (by decide)
  unfold m_law_rests
  dsimp only [bnd, ret, need, andM]
  refine forW_inv (fun r (s : List Str) m => m = n ∧ (∀ x ∈ r, x ∈ ws) ∧ s.length + 8 * r.length ≤ 64 ∧ (∀ z ∈ s, Rst ws z) ∧ ∀ x ∈ ws, x ∈ r ∨ ∀ y ∈ ws, y ≠ x → cd x <+: cd y → ∃ z ∈ s, cd y = cd x ++ cd z)
    ⟨rfl, fun x h => h, by simp only [List.length_nil]; omega, fun z hz => by simp at hz, fun x hx => .inl hx⟩ ?_ ?_
  · rintro x r s m Nx ⟨rfl, hr, hl, hs, he⟩ hN
    have hx := hr x List.mem_cons_self
    have hx8 := w8 x hx
    rw [List.length_cons] at hl
    refine forW_inv (fun r' (s' : List Str) m' => m' = m ∧ (∀ y ∈ r', y ∈ ws) ∧ s'.length + r'.length ≤ s.length + ws.length ∧ (∀ z ∈ s', Rst ws z) ∧ (∀ z ∈ s, z ∈ s') ∧ ∀ y ∈ ws, y ∈ r' ∨ (y ≠ x → cd x <+: cd y → ∃ z ∈ s', cd y = cd x ++ cd z))
      ⟨rfl, fun y h => h, Nat.le_refl _, hs, fun z hz => hz, fun y hy => .inl hy⟩ ?_ ?_
    · rintro y r' s' m' Nx' ⟨rfl, hr', hl', hs', hk, he'⟩ hN'
      have hy := hr' y List.mem_cons_self
      have hy8 := w8 y hy
      rw [List.length_cons] at hl'
      have stay : (y ≠ x → ¬ cd x <+: cd y) → Nx' s' m' := fun c => hN' _ _ ⟨rfl, fun z hz => hr' z (List.mem_cons_of_mem _ hz), by omega, hs', hk, fun z hz => by
        rcases he' z hz with h1 | h1
        · rcases List.mem_cons.mp h1 with rfl | h1
          · exact .inr fun ne p => absurd p (c ne)
          · exact .inl h1
        · exact .inr h1⟩
      refine ⟨fun c => ⟨lk (by omega), lk (by omega), fun d => ⟨lk (by omega), lk (by omega), lk (by omega), ?_⟩, fun d => stay fun _ p => of_decide_eq_false d (cut_pre.mpr p)⟩, fun c => ⟨fun e => Bool.noConfusion e, fun _ => stay fun ne => absurd (by simpa using c) ne⟩⟩
      have ne : ¬ y = x := by simpa using c
      have p := cut_pre.mp (of_decide_eq_true d)
      have e := pre_drop p
      have tn : cd (cutS y (some (x.length : Int)) none) ≠ [] := fun z => ne (by
        rw [z, List.append_nil] at e
        exact cd_inj e)
      refine hN' _ _ ⟨rfl, fun z hz => hr' z (List.mem_cons_of_mem _ hz), by rw [List.length_append, List.length_singleton]; omega, fun z hz => ?_, fun z hz => List.mem_append_left _ (hk z hz), fun z hz => ?_⟩
      · rcases List.mem_append.mp hz with hz | hz
        · exact hs' z hz
        · have : z = cutS y (some (x.length : Int)) none := by simpa using hz
          rw [this]
          exact ⟨psl_mem hy e (mm_ne h _ (mm_mem.mpr hx)) tn, _, Ahd.ini (mm_mem.mpr hx) (by rw [← e]; exact mm_mem.mpr hy) tn⟩
      · rcases he' z hz with h1 | h1
        · rcases List.mem_cons.mp h1 with rfl | h1
          · exact .inr fun _ _ => ⟨_, by simp, e⟩
          · exact .inl h1
        · refine .inr fun a b => ?_
          obtain ⟨v, hv, ev⟩ := h1 a b
          exact ⟨v, List.mem_append_left _ hv, ev⟩
    · rintro s' m' ⟨rfl, _, hl', hs', hk, he'⟩
      have hl' : s'.length + 0 ≤ s.length + ws.length := hl'
      refine hN _ _ ⟨rfl, fun z hz => hr z (List.mem_cons_of_mem _ hz), by omega, hs', fun z hz => ?_⟩
      rcases he z hz with h1 | h1
      · rcases List.mem_cons.mp h1 with rfl | h1
        · refine .inr fun y hy ne p => ?_
          rcases he' y hy with h2 | h2
          · simp at h2
          · exact h2 ne p
        · exact .inl h1
      · refine .inr fun y hy ne p => ?_
        obtain ⟨v, hv, ev⟩ := h1 y hy ne p
        exact ⟨v, hk v hv, ev⟩
  · rintro s0 m ⟨rfl, _, hl0, hs0, he0⟩
    have hl0 : s0.length + 0 ≤ 64 := hl0
    refine whileW_inv (fun (t : List Str × List Str × Bool) m' => m' = m ∧ t.2.1.Nodup ∧ (∀ r ∈ t.2.1, Rst ws r) ∧ (∀ r ∈ t.1, Rst ws r) ∧ t.1.length ≤ 64 + 8 * t.2.1.length ∧
      (∀ x ∈ ws, ∀ y ∈ ws, ∀ u : List Nat, cd y = cd x ++ u → u ≠ [] → ∃ r, (r ∈ t.2.1 ∨ r ∈ t.1) ∧ cd r = u) ∧ (∀ r ∈ t.2.1, ∀ w ∈ ws, btw r w = "" ∨ btw r w ∈ t.2.1 ∨ btw r w ∈ t.1) ∧ (t.2.2 = true ↔ ∃ z ∈ t.2.1, z ∈ ws)) (fun t => (64 - t.2.1.length) * 9 + t.1.length) ?_ ?_
    · rintro ⟨ah, fo, fl⟩ m' W ⟨rfl, nd, okf, oka, len, ini, nx, fa⟩ hW
      dsimp only at nd okf oka len ini nx fa ⊢
      have f56 : ∀ fs : List Str, fs.Nodup → (∀ r ∈ fs, Rst ws r) → fs.length ≤ 56 := fun fs nd ok => by
        have nd' : (fs.map cd).Nodup := List.pairwise_map.mpr (nd.imp fun n e => n (cd_inj e))
        have := nd_len nd' (m := psl ws) fun x hx => by
          obtain ⟨r, hr, rfl⟩ := List.mem_map.mp hx
          exact (ok r hr).1
        rw [List.length_map] at this
        exact Nat.le_trans this (psl_len h)
      have f0 := f56 fo nd okf
      refine ⟨⟨okA (α := List Str) (sokW fun x hx => (oka x hx).l h), okA (α := List Str) (a := []) fun x h => by simp at h⟩, ?_⟩
      rw [eqE_nil]
      refine ⟨fun c => ?_, fun c => ?_⟩
      · have c : ah ≠ [] := by simpa using c
        refine ⟨c, fun p hp => ?_⟩
        have pl : ah.getLast c = p := by
          rw [List.getLast_eq_getElem]
          have hl := List.length_pos_iff.mpr c
          rw [List.getElem?_eq_getElem (by omega)] at hp
          exact Option.some.inj hp
        have split : ∀ r, r ∈ ah ↔ r ∈ ah.dropLast ∨ r = p := fun r => by
          conv => lhs; rw [← List.dropLast_concat_getLast c, pl]
          rw [List.mem_append, List.mem_singleton]
        have dl : ah.dropLast.length + 1 = ah.length := by
          rw [List.length_dropLast]
          have := List.length_pos_iff.mpr c
          omega
        have pr := oka p ((split p).mpr (.inr rfl))
        have p8 := psl_len8 h pr.1
        refine ⟨fun e2 => ?_, fun e2 => ?_⟩
        · have e2 : p ∉ fo := by simpa using e2
          have nd2 : (fo ++ [p]).Nodup := by
            rw [List.nodup_append]
            exact ⟨nd, by simp, fun a ha b hb e => e2 (by
              have hb : b = p := by simpa using hb
              rw [← hb, ← e]
              exact ha)⟩
          have ok2 : ∀ r ∈ fo ++ [p], Rst ws r := fun r hr => by
            rcases List.mem_append.mp hr with hr | hr
            · exact okf r hr
            · have : r = p := by simpa using hr
              rw [this]
              exact pr
          have f2 := f56 _ nd2 ok2
          rw [List.length_append, List.length_singleton] at f2
          refine ⟨lk (by omega), ?_⟩
          generalize ah.dropLast = dr at split dl
          refine forW_inv (fun r (t : List Str × Bool) m'' => m'' = m' ∧ (∀ w ∈ r, w ∈ ws) ∧ t.1.length + r.length ≤ dr.length + ws.length ∧ (∀ z ∈ t.1, Rst ws z) ∧ (∀ z ∈ dr, z ∈ t.1) ∧ (∀ w ∈ ws, w ∈ r ∨ btw p w = "" ∨ btw p w ∈ t.1) ∧ (t.2 = true → fl = true ∨ p ∈ ws) ∧ (fl = true → t.2 = true) ∧ (p ∈ ws → p ∈ r ∨ t.2 = true))
            ⟨rfl, fun w hw => hw, Nat.le_refl _, fun z hz => oka z ((split z).mpr (.inl hz)), fun z hz => hz, fun w hw => .inl hw, fun e => .inl e, fun e => e, fun e => .inl e⟩ ?_ ?_
          · rintro w r ⟨t1, t2⟩ m'' Nx ⟨rfl, hr, hl, ht, hk, hb, g1, g2, g3⟩ hN
            dsimp only at hl ht hk hb g1 g2 g3 ⊢
            have hw := hr w List.mem_cons_self
            have hw8 := w8 w hw
            have hr' : ∀ z ∈ r, z ∈ ws := fun z hz => hr z (List.mem_cons_of_mem _ hz)
            rw [List.length_cons] at hl
            have put : ∀ z, cd z = cd (btw p w) → z ≠ "" → w ≠ p → Nx (t1 ++ [z], t2) m'' := fun z ez zn wp => by
              obtain rfl : z = btw p w := cd_inj ez
              refine hN _ _ ⟨rfl, hr', by rw [List.length_append, List.length_singleton]; omega, fun v hv => ?_, fun v hv => List.mem_append_left _ (hk v hv), fun v hv => ?_, g1, g2, fun e => ?_⟩
              · rcases List.mem_append.mp hv with hv | hv
                · exact ht v hv
                · have : v = btw p w := by simpa using hv
                  rw [this]
                  exact (pr.next h hw).resolve_left zn
              · rcases hb v hv with h1 | h1 | h1
                · rcases List.mem_cons.mp h1 with rfl | h1
                  · exact .inr (.inr (by simp))
                  · exact .inl h1
                · exact .inr (.inl h1)
                · exact .inr (.inr (List.mem_append_left _ h1))
              · rcases g3 e with h1 | h1
                · rcases List.mem_cons.mp h1 with h1 | h1
                  · exact absurd h1.symm wp
                  · exact .inl h1
                · exact .inr h1
            refine ⟨fun c1 => ?_, fun c1 => ⟨lk (by omega), lk (by omega), fun c2 => ⟨lk (by omega), lk (by omega), lk (by omega), ?_⟩, fun c2 => ⟨lk (by omega), lk (by omega), fun c3 => ⟨lk (by omega), lk (by omega), lk (by omega), ?_⟩, fun c3 => ?_⟩⟩⟩
            · obtain rfl : w = p := of_decide_eq_true c1
              refine hN _ _ ⟨rfl, hr', by dsimp only; omega, ht, hk, fun v hv => ?_, fun _ => .inr hw, fun _ => rfl, fun _ => .inr rfl⟩
              rcases hb v hv with h1 | h1 | h1
              · rcases List.mem_cons.mp h1 with rfl | h1
                · refine .inr (.inl (cd_nil_iff.mp (btw_less (r := []) (by rw [List.append_nil]))))
                · exact .inl h1
              · exact .inr (.inl h1)
              · exact .inr (.inr h1)
            · have wp : ¬ w = p := of_decide_eq_false c1
              have pf := cut_pre.mp (of_decide_eq_true c2)
              have e := pre_drop pf
              refine put _ (btw_more e).symm (fun z => wp ?_) wp
              rw [z] at e
              have e : cd p = cd w ++ [] := e
              rw [List.append_nil] at e
              exact (cd_inj e).symm
            · have wp : ¬ w = p := of_decide_eq_false c1
              have pf := cut_pre.mp (of_decide_eq_true c3)
              have e := pre_drop pf
              refine put _ (btw_less e).symm (fun z => wp ?_) wp
              rw [z] at e
              have e : cd w = cd p ++ [] := e
              rw [List.append_nil] at e
              exact cd_inj e
            · have wp : ¬ w = p := of_decide_eq_false c1
              have n1 : ¬ cd w <+: cd p := fun z => of_decide_eq_false c2 (cut_pre.mpr z)
              have n2 : ¬ cd p <+: cd w := fun z => of_decide_eq_false c3 (cut_pre.mpr z)
              refine hN _ _ ⟨rfl, hr', by dsimp only; omega, ht, hk, fun v hv => ?_, g1, g2, fun e => ?_⟩
              · rcases hb v hv with h1 | h1
                · rcases List.mem_cons.mp h1 with rfl | h1
                  · refine .inr (.inl ?_)
                    unfold btw
                    rw [if_neg fun z => n2 ((startswith_iff _ _).mp z), if_neg fun z => n1 ((startswith_iff _ _).mp z)]
                  · exact .inl h1
                · exact .inr h1
              · rcases g3 e with h1 | h1
                · rcases List.mem_cons.mp h1 with h1 | h1
                  · exact absurd h1.symm wp
                  · exact .inl h1
                · exact .inr h1
          · rintro ⟨t1, t2⟩ m'' ⟨rfl, _, hl, ht, hk, hb, g1, g2, g3⟩
            dsimp only at hl ht hk hb g1 g2 g3 ⊢
            have hl : t1.length + 0 ≤ dr.length + ws.length := hl
            refine hW _ _ ⟨rfl, nd2, ok2, ht, ?_, fun x hx y hy u e un => ?_, fun r hr w hw => ?_, ?_⟩ ?_
            · dsimp only
              rw [List.length_append, List.length_singleton]
              omega
            · obtain ⟨r, h1 | h1, h2⟩ := ini x hx y hy u e un
              · exact ⟨r, .inl (List.mem_append_left _ h1), h2⟩
              · rcases (split r).mp h1 with h1 | rfl
                · exact ⟨r, .inr (hk r h1), h2⟩
                · exact ⟨_, .inl (by simp), h2⟩
            · rcases List.mem_append.mp hr with hr | hr
              · rcases nx r hr w hw with h1 | h1 | h1
                · exact .inl h1
                · exact .inr (.inl (List.mem_append_left _ h1))
                · rcases (split _).mp h1 with h1 | h1
                  · exact .inr (.inr (hk _ h1))
                  · exact .inr (.inl (by rw [h1]; simp))
              · have : r = p := by simpa using hr
                rw [this]
                rcases hb w hw with h1 | h1 | h1
                · simp at h1
                · exact .inl h1
                · exact .inr (.inr h1)
            · constructor
              · intro e
                rcases g1 e with h1 | h1
                · obtain ⟨z, a, b⟩ := fa.mp h1
                  exact ⟨z, List.mem_append_left _ a, b⟩
                · exact ⟨p, by simp, h1⟩
              · rintro ⟨z, a, b⟩
                rcases List.mem_append.mp a with a | a
                · exact g2 (fa.mpr ⟨z, a, b⟩)
                · have : z = p := by simpa using a
                  rw [this] at b
                  rcases g3 b with h1 | h1
                  · simp at h1
                  · exact h1
            · dsimp only
              rw [List.length_append, List.length_singleton]
              omega
        · have e2 : p ∈ fo := by simpa using e2
          refine hW _ _ ⟨rfl, nd, okf, fun r hr => oka r ((split r).mpr (.inl hr)), by dsimp only; omega, fun x hx y hy u e un => ?_, fun r hr w hw => ?_, fa⟩ (by dsimp only; omega)
          · obtain ⟨r, h1 | h1, h2⟩ := ini x hx y hy u e un
            · exact ⟨r, .inl h1, h2⟩
            · rcases (split r).mp h1 with h1 | rfl
              · exact ⟨r, .inr h1, h2⟩
              · exact ⟨_, .inl e2, h2⟩
          · rcases nx r hr w hw with h1 | h1 | h1
            · exact .inl h1
            · exact .inr (.inl h1)
            · rcases (split _).mp h1 with h1 | h1
              · exact .inr (.inr h1)
              · exact .inr (.inl (by rw [h1]; exact e2))
      · have c : ah = [] := by simpa using c
        subst c
        refine q fo fl ⟨nd, okf, fun x hx y hy u e un => ?_, fun r hr w hw => ?_⟩ fa
        · obtain ⟨r, h1 | h1, h2⟩ := ini x hx y hy u e un
          · exact ⟨r, h1, h2⟩
          · simp at h1
        · rcases nx r hr w hw with h1 | h1 | h1
          · exact .inl h1
          · exact .inr h1
          · simp at h1
    · refine ⟨rfl, List.nodup_nil, fun r hr => by simp at hr, hs0, by dsimp only; simp only [List.length_nil]; omega, fun x hx y hy u e un => ?_, fun r hr => by simp at hr, ⟨fun e => Bool.noConfusion e, fun ⟨z, hz, _⟩ => by simp at hz⟩⟩
      have ne : y ≠ x := fun z => un (by
        rw [z] at e
        have : cd x ++ [] = cd x ++ u := by rw [List.append_nil]; exact e
        exact (List.append_cancel_left this).symm)
      rcases he0 x hx with h1 | h1
      · simp at h1
      · obtain ⟨z, hz, ez⟩ := h1 y hy ne ⟨u, e.symm⟩
        exact ⟨z, .inr hz, List.append_cancel_left (ez.symm.trans e)⟩
theorem lfree_spec {ws : List Str} {n : Int} {Q : List Str × Bool → Int → Prop} (h : Wl ws) (q : ∀ ys b, (b = true ↔ ¬ Free (mm ws)) → Q (ys, b) n) : m_law_rests ws n Q :=
  lrests_spec h fun ys b r e => q ys b (by
    rw [e, r.free h]
    constructor
    · rintro ⟨z, a, b⟩ no
      exact no z a b
    · intro no
      exact Classical.byContradiction fun c => no fun z a b => c ⟨z, a, b⟩)
end WH
namespace WH
open PySem PySem.Spec PyProof.Rows L2
open Enc (enc)
open EncL (encl)
/-! ### how many readings, as rows of words -/
theorem RD_iff {ws : List Str} (hw : ∀ x ∈ ws, 1 ≤ x.length) {t : List Nat} {r : List Nat} : r ∈ RD ws t ↔ (∀ i ∈ r, i < ws.length) ∧ codes ws r = t := by
  constructor
  · intro h
    obtain ⟨k, hk, rfl⟩ := List.getElem_of_mem h
    exact RD_codes hw (List.getElem?_eq_getElem hk)
  · rintro ⟨a, b⟩
    exact RD_mem hw r t a b
theorem RD_nd {ws : List Str} (hw : ∀ x ∈ ws, 1 ≤ x.length) (t : List Nat) : (RD ws t).Nodup := by
  rw [List.Nodup, List.pairwise_iff_getElem]
  intro i j hi hj ij
  exact RD_ne hw (List.getElem?_eq_getElem hi) (List.getElem?_eq_getElem hj) (by omega)
def RWs (ws : List Str) (t : List Nat) : List (List (List Nat)) := (RD ws t).map (rowOf ws)
def cnt (ws : List Str) (t : List Nat) : Nat := (RD ws t).length
theorem rw_len (ws : List Str) (t : List Nat) : (RWs ws t).length = cnt ws t := List.length_map _
theorem rw_mem {ws : List Str} (h : Wl ws) {t : List Nat} {u : List (List Nat)} : u ∈ RWs ws t ↔ Row (mm ws) u ∧ u.flatten = t := by
  unfold RWs
  rw [List.mem_map]
  constructor
  · rintro ⟨r, hr, rfl⟩
    obtain ⟨a, b⟩ := (RD_iff h.len1).mp hr
    exact ⟨rowOf_row a, by rw [rowOf_codes, b]⟩
  · rintro ⟨a, b⟩
    obtain ⟨r, r1, r2⟩ := row_idx a
    exact ⟨r, (RD_iff h.len1).mpr ⟨r1, by rw [← rowOf_codes, r2, b]⟩, r2⟩
theorem rw_nd {ws : List Str} (h : Wl ws) (t : List Nat) : (RWs ws t).Nodup := by
  refine List.pairwise_map.mpr (List.Pairwise.imp_of_mem (fun {a b} ha hb ne e => ne ?_) (RD_nd h.len1 t))
  exact rowOf_inj h.nd ((RD_iff h.len1).mp ha).1 ((RD_iff h.len1).mp hb).1 e
theorem cnt_le {ws us : List Str} {t s : List Nat} (h : Wl ws) (g : Wl us) (f : List (List Nat) → List (List Nat)) (inj : ∀ a b, f a = f b → a = b) (m : ∀ u, Row (mm ws) u → u.flatten = t → Row (mm us) (f u) ∧ (f u).flatten = s) : cnt ws t ≤ cnt us s := by
  rw [← rw_len ws, ← rw_len us, ← List.length_map (as := RWs ws t) f]
  refine nd_len (List.pairwise_map.mpr ((rw_nd h t).imp fun {a b} ne e => ne (inj a b e))) fun x hx => ?_
  obtain ⟨u, hu, rfl⟩ := List.mem_map.mp hx
  obtain ⟨a, b⟩ := (rw_mem h).mp hu
  exact (rw_mem g).mpr (m u a b)
theorem cnt_pos {ws : List Str} (h : Wl ws) {t : List Nat} {u : List (List Nat)} (a : Row (mm ws) u) (b : u.flatten = t) : 0 < cnt ws t := by
  rw [← rw_len]
  exact List.length_pos_of_mem ((rw_mem h).mpr ⟨a, b⟩)
theorem cnt_free {ws : List Str} (h : Wl ws) (F : Free (mm ws)) (t : List Nat) : cnt ws t ≤ 1 := by
  rw [← rw_len]
  have nd := rw_nd h t
  match hl : RWs ws t with
  | [] => exact Nat.zero_le _
  | [a] => exact Nat.le_refl _
  | a :: b :: l =>
    rw [hl] at nd
    obtain ⟨a1, a2⟩ := (rw_mem h).mp (show a ∈ RWs ws t by rw [hl]; simp)
    obtain ⟨b1, b2⟩ := (rw_mem h).mp (show b ∈ RWs ws t by rw [hl]; simp)
    have := F.un a b a1 b1 (a2.trans b2.symm)
    subst this
    simp at nd
theorem flatMap_nd {α β : Type} {f : α → List β} : ∀ {l : List α}, l.Nodup → (∀ x ∈ l, (f x).Nodup) → (∀ x ∈ l, ∀ y ∈ l, ∀ b, b ∈ f x → b ∈ f y → x = y) → (l.flatMap f).Nodup
  | [], _, _, _ => by simp
  | x :: l, nd, h1, h2 => by
    obtain ⟨n1, n2⟩ := List.nodup_cons.mp nd
    rw [List.flatMap_cons, List.nodup_append]
    refine ⟨h1 x List.mem_cons_self, flatMap_nd n2 (fun y hy => h1 y (List.mem_cons_of_mem _ hy)) (fun y hy z hz => h2 y (List.mem_cons_of_mem _ hy) z (List.mem_cons_of_mem _ hz)), fun a ha b hb e => ?_⟩
    subst e
    obtain ⟨y, hy, hb⟩ := List.mem_flatMap.mp hb
    have := h2 x List.mem_cons_self y (List.mem_cons_of_mem _ hy) a ha hb
    rw [this] at n1
    exact n1 hy
theorem flat_len {α β : Type} {f : α → List β} {c : Nat} : ∀ {l : List α}, (∀ x ∈ l, (f x).length = c) → (l.flatMap f).length = l.length * c
  | [], _ => by simp
  | x :: l, h => by
    rw [List.flatMap_cons, List.length_append, h x List.mem_cons_self, flat_len fun y hy => h y (List.mem_cons_of_mem _ hy), List.length_cons, Nat.add_mul, Nat.one_mul, Nat.add_comm]
/-- of words, none empty: a row's beginning that makes the same is the same -/
theorem row_cut {X : List Nat → Prop} (ne : ∀ x, X x → x ≠ []) : ∀ {u v u' v' : List (List Nat)}, Row X u → Row X u' → u.flatten = u'.flatten → u ++ v = u' ++ v' → u = u'
  | [], _, [], _, _, _, _, _ => rfl
  | [], _, y :: u', _, _, h', e, _ => by
    rw [List.flatten_nil, List.flatten_cons] at e
    exact absurd (List.append_eq_nil_iff.mp e.symm).1 (ne y h'.head)
  | x :: u, _, [], _, h, _, e, _ => by
    rw [List.flatten_nil, List.flatten_cons] at e
    exact absurd (List.append_eq_nil_iff.mp e).1 (ne x h.head)
  | x :: u, v, y :: u', v', h, h', e, e2 => by
    obtain ⟨rfl, e3⟩ := List.cons.inj e2
    rw [List.flatten_cons, List.flatten_cons] at e
    rw [row_cut ne h.tail h'.tail (List.append_cancel_left e) e3]
theorem cnt_mul {ws : List Str} (h : Wl ws) (s t : List Nat) : cnt ws s * cnt ws t ≤ cnt ws (s ++ t) := by
  have nd : ((RWs ws s).flatMap fun u => (RWs ws t).map fun v => u ++ v).Nodup := by
    refine flatMap_nd (rw_nd h s) (fun u _ => List.pairwise_map.mpr ((rw_nd h t).imp fun {a b} ne e => ne (List.append_cancel_left e))) fun u hu u' hu' b hb hb' => ?_
    obtain ⟨v, _, e⟩ := List.mem_map.mp hb
    obtain ⟨v', _, e'⟩ := List.mem_map.mp hb'
    obtain ⟨a1, a2⟩ := (rw_mem h).mp hu
    obtain ⟨b1, b2⟩ := (rw_mem h).mp hu'
    exact row_cut (mm_ne h) a1 b1 (a2.trans b2.symm) (e.trans e'.symm)
  have := nd_len nd (m := RWs ws (s ++ t)) fun x hx => by
    obtain ⟨u, hu, hx⟩ := List.mem_flatMap.mp hx
    obtain ⟨v, hv, rfl⟩ := List.mem_map.mp hx
    obtain ⟨a1, a2⟩ := (rw_mem h).mp hu
    obtain ⟨b1, b2⟩ := (rw_mem h).mp hv
    exact (rw_mem h).mpr ⟨a1.app b1, by rw [List.flatten_append, a2, b2]⟩
  rw [flat_len (c := cnt ws t) fun u _ => by rw [List.length_map, rw_len], rw_len, rw_len] at this
  exact this
theorem cnt_lt {ws : List Str} (h : Wl ws) {t : List Nat} (ht : t.length ≤ 64) : cnt ws t < 2 ^ 64 := by
  have hw := h.len1
  unfold cnt
  rw [RD_len hw]
  match t, ht with
  | [], _ => exact (by decide : (1 : Nat) < 2 ^ 64)
  | c :: t, ht =>
    have up : (2 : Nat) ^ (c :: t).length ≤ 2 ^ 64 := Nat.pow_le_pow_right (by decide) ht
    refine Nat.lt_of_lt_of_le ?_ up
    rw [wl_cons, List.headD_cons]
    unfold ent
    rw [ent_eq ws hw ws hw, sum_filter (fun w => fit w (c :: t)) (eOf ws (c :: t)) ws (fun x _ hq => by unfold eOf; rw [if_neg (by rw [hq]; exact Bool.false_ne_true)])]
    have h1 : ((ws.filter fun w => fit w (c :: t)).map (eOf ws (c :: t))).sum ≤ ((ws.filter fun w => fit w (c :: t)).map fun w => 2 ^ ((c :: t).length - w.length)).sum := by
      refine sum_le_map _ fun x hx => ?_
      obtain ⟨hx1, hx2⟩ := List.mem_filter.mp hx
      unfold eOf
      rw [if_pos hx2]
      have ih := wl_small hw h.nd _ ((c :: t).drop x.length) (Nat.le_refl _)
      rw [List.length_drop] at ih
      exact ih
    have h2 := sum_pow_lt (c :: t).length ((ws.filter fun w => fit w (c :: t)).map (·.length)) ?_ ?_
    · rw [List.map_map] at h2
      exact Nat.lt_of_le_of_lt h1 h2
    · refine List.pairwise_map.mpr (List.Pairwise.imp_of_mem (fun {a b} ha hb hab => ?_) (h.nd.filter _))
      obtain ⟨_, ha2⟩ := List.mem_filter.mp ha
      obtain ⟨_, hb2⟩ := List.mem_filter.mp hb
      unfold fit at ha2 hb2
      intro e
      apply hab
      apply str_of_list
      rw [← eq_of_beq ha2, ← eq_of_beq hb2, e]
    · intro l hl
      obtain ⟨x, hx, rfl⟩ := List.mem_map.mp hl
      obtain ⟨hx1, hx2⟩ := List.mem_filter.mp hx
      exact ⟨hw x hx1, fit_len hx2⟩
/-- the text of a row -/
def tx (ws : List Str) (row : List Nat) : Str := ⟨(codes ws row).toArray⟩
theorem tx_cd (ws : List Str) (row : List Nat) : cd (tx ws row) = codes ws row := by simp [tx]
theorem tx_isL {ws : List Str} (h : Wl ws) {row : List Nat} (hr : ∀ i ∈ row, i < ws.length) : isL (tx ws row) = true := isL_iff.mpr fun c hc => by
  have hc : c ∈ cd (tx ws row) := hc
  rw [tx_cd, ← rowOf_codes] at hc
  exact row_isL h (rowOf_row hr) c hc
theorem codes_len {ws : List Str} (h : Wl ws) : ∀ {row : List Nat}, (∀ i ∈ row, i < ws.length) → (codes ws row).length ≤ 8 * row.length
  | [], _ => by simp [codes]
  | i :: r, hr => by
    have hi := hr i List.mem_cons_self
    have ih := codes_len h (row := r) fun j hj => hr j (List.mem_cons_of_mem _ hj)
    have w8 := (isW_iff.mp (h.w ws[i] (List.getElem_mem hi))).2.2
    rw [codes_cons, List.length_append, List.length_cons, getS_at hi, cd_len]
    omega
theorem tx_len {ws : List Str} (h : Wl ws) {row : List Nat} (hr : ∀ i ∈ row, i < ws.length) : (tx ws row).length ≤ 8 * row.length := by
  rw [← cd_len, tx_cd]
  exact codes_len h hr
theorem cast_cons (i : Nat) (r : List Nat) : castL (i :: r) = (i : Int) :: castL r := rfl
theorem cast_len (r : List Nat) : (castL r).length = r.length := List.length_map _
theorem cast_app (a b : List Nat) : castL a ++ castL b = castL (a ++ b) := (List.map_append).symm
theorem cast_mem {r : List Nat} {x : Int} (h : x ∈ castL r) : ∃ i ∈ r, x = (i : Int) := by
  obtain ⟨i, a, b⟩ := List.mem_map.mp h
  exact ⟨i, a, b.symm⟩
theorem cutL_take {α : Type} {xs : List α} {k : Nat} : cutL xs none (some (k : Int)) = xs.take k := by
  unfold cutL
  rw [HT.sIx_none, HT.sIx_nat, List.drop_zero, Nat.sub_zero]
  rcases Nat.le_total k xs.length with h | h
  · rw [Nat.min_eq_left h]
  · rw [Nat.min_eq_right h, List.take_length, List.take_of_length_le h]
end WH
namespace WH
open PySem PySem.Spec PyProof.Rows L2
open Enc (enc)
open EncL (encl)
theorem LeftFree.free {X : List Nat → Prop} (L : LeftFree X) : Free X := by
  refine ⟨L.ne, fun u => ?_⟩
  induction u with
  | nil =>
    intro v _ hv e
    cases v with
    | nil => rfl
    | cons y v =>
      have := e.symm
      rw [List.flatten_cons, List.flatten_nil] at this
      exact absurd (List.append_eq_nil_iff.mp this).1 (L.ne y hv.head)
  | cons x u ih =>
    intro v hu hv e
    cases v with
    | nil =>
      rw [List.flatten_cons, List.flatten_nil] at e
      exact absurd (List.append_eq_nil_iff.mp e).1 (L.ne x hu.head)
    | cons y v =>
      rw [List.flatten_cons, List.flatten_cons] at e
      have xy : x = y := by
        rcases append_cases e with p | p
        · exact L.pf _ _ hu.head hv.head p
        · exact (L.pf _ _ hv.head hu.head p).symm
      subst xy
      rw [ih v hu.tail hv.tail (List.append_cancel_left e)]
theorem flat_rev (u : List (List Nat)) : (u.map List.reverse).reverse.flatten = u.flatten.reverse := by
  induction u with
  | nil => rfl
  | cons x u ih => simp [ih]
theorem RightFree.free {X : List Nat → Prop} (R : RightFree X) : Free X := by
  have F : Free (mir X) := LeftFree.free R
  have ne : ∀ x, X x → x ≠ [] := fun x hx e => F.ne x.reverse (show X x.reverse.reverse by rwa [List.reverse_reverse]) (by rw [e]; rfl)
  refine ⟨ne, fun u v hu hv e => ?_⟩
  have row : ∀ w : List (List Nat), Row X w → Row (mir X) (w.map List.reverse).reverse := fun w hw x hx => by
    obtain ⟨y, hy, rfl⟩ := List.mem_map.mp (List.mem_reverse.mp hx)
    show X y.reverse.reverse
    rw [List.reverse_reverse]
    exact hw y hy
  have := F.un _ _ (row u hu) (row v hv) (by rw [flat_rev, flat_rev, e])
  have := List.reverse_inj.mp this
  have back : ∀ w : List (List Nat), (w.map List.reverse).map List.reverse = w := fun w => by
    rw [List.map_map]
    have : (List.reverse ∘ List.reverse : List Nat → List Nat) = id := by funext x; simp
    rw [this, List.map_id]
  rw [← back u, this, back v]
end WH
namespace WH
open PySem PySem.Spec PyProof.Rows L2
open Enc (enc)
open EncL (encl)
theorem limE {k : Nat} (h : k ≤ 1000000) : k ≤ LIM := h
theorem Free.mono {C D : List Nat → Prop} (F : Free C) (h : ∀ t, D t → C t) : Free D := ⟨fun x hx => F.ne x (h x hx), fun u v hu hv e => F.un u v (fun t ht => h t (hu t ht)) (fun t ht => h t (hv t ht)) e⟩
theorem free_one {x : Str} (hx : 1 ≤ x.length) : Free (mm [x]) := by
  have ne : cd x ≠ [] := fun e => by
    have := cd_len x
    rw [e] at this
    simp at this
    omega
  have only : ∀ t, mm [x] t → t = cd x := fun t ⟨y, hy, e⟩ => by
    have : y = x := by simpa using hy
    rw [← e, this]
  exact LeftFree.free ⟨fun t ht => by rw [only t ht]; exact ne, fun a b ha hb _ => (only a ha).trans (only b hb).symm⟩
theorem eased_spec {l : List Str} {n : Int} {Q : List Str → Int → Prop} (hl : ∀ x ∈ l, isW x = true) (l1 : 1 ≤ l.length) (l8 : l.length ≤ 8) (q : ∀ ws, Good ws → ws.length ≤ 8 → Free (mm ws) → Q ws n) : m_law_eased l n Q := by
  unfold m_law_eased
  dsimp only [bnd, ret, need, andM, notM, pc]
  refine forW_inv (fun (r s : List Str) m => m = n ∧ s.Nodup ∧ (∀ x ∈ s, isW x = true) ∧ (∀ x ∈ r, isW x = true) ∧ s.length + r.length ≤ 8 ∧ Free (mm s) ∧ (s = [] → r ≠ [])) ⟨rfl, List.nodup_nil, fun x hx => by simp at hx, hl, by simpa using l8, (by
    have no : ∀ t, ¬ mm [] t := fun t ⟨x, hx, _⟩ => by simp at hx
    exact LeftFree.free ⟨fun x hx => absurd hx (no x), fun x y hx => absurd hx (no x)⟩), fun _ e => by rw [e] at l1; simp at l1⟩ ?_ ?_
  · rintro x r s m Nx ⟨rfl, nd, hs, hr, ln, F, ne⟩ hN
    rw [List.length_cons] at ln
    have hx := hr x List.mem_cons_self
    have hr' : ∀ y ∈ r, isW y = true := fun y hy => hr y (List.mem_cons_of_mem _ hy)
    have stay : s ≠ [] → Nx s m := fun c => hN _ _ ⟨rfl, nd, hs, hr', by omega, F, fun e => absurd e c⟩
    refine ⟨fun c => ?_, fun c => ⟨fun e => Bool.noConfusion e, fun _ => stay fun e => ?_⟩⟩
    · have c : x ∉ s := by simpa using c
      have w2 : Wl (s ++ [x]) := ⟨by
        rw [List.nodup_append]
        exact ⟨nd, by simp, fun a ha b hb e => c (by
          have hb : b = x := by simpa using hb
          rw [← hb, ← e]
          exact ha)⟩, fun y hy => by
        rcases List.mem_append.mp hy with hy | hy
        · exact hs y hy
        · have : y = x := by simpa using hy
          rw [this]
          exact hx, by rw [List.length_append, List.length_singleton]; omega⟩
      refine ⟨limE (by show s.length + 1 ≤ 1000000; omega), lfree_spec w2 fun rs b hb => ⟨fun e => ⟨limE (by omega), hN _ _ ⟨rfl, w2.nd, w2.w, hr', by rw [List.length_append, List.length_singleton]; omega, ?_, fun e => by simp at e⟩⟩, fun e => stay fun e0 => ?_⟩⟩
      · have e : b = false := by simpa using e
        exact Classical.byContradiction fun nf => by
          rw [hb.mpr nf] at e
          cases e
      · subst e0
        have e : b = true := by simpa using e
        exact hb.mp e (free_one (isW_iff.mp hx).2.1)
    · subst e
      simp at c
  · rintro s m ⟨rfl, nd, hs, _, ln, F, ne⟩
    have sne : s ≠ [] := fun e => ne e rfl
    have ln : s.length + 0 ≤ 8 := ln
    exact q s ⟨hs, nd, List.length_pos_iff.mpr sne, by omega⟩ (by omega) F
end WH
namespace WH
open PySem PySem.Spec PyProof.Rows L2
open Enc (enc)
open EncL (encl)
/-! ### texts counted: the defs -/
def cds (ws : List Str) : List (List Nat) := ws.map cd
theorem mm_cds (ws : List Str) : mm ws = fun t => t ∈ cds ws := by
  funext t
  apply propext
  exact ⟨fun ⟨x, hx, e⟩ => List.mem_map.mpr ⟨x, hx, e⟩, fun ht => by
    obtain ⟨x, hx, e⟩ := List.mem_map.mp ht
    exact ⟨x, hx, e⟩⟩
theorem cds_nd {ws : List Str} (h : Wl ws) : (cds ws).Nodup := List.pairwise_map.mpr (h.nd.imp fun n e => n (cd_inj e))
theorem lk {k : Nat} (h : k ≤ 1000000) : k ≤ LIM := h
theorem ups_cons (a : Int) (m : Nat) : intsUp a (m + 1) = a :: intsUp (a + 1) m := by
  unfold intsUp
  rw [List.range_succ_eq_map, List.map_cons, List.map_map]
  congr 1
  · simp
  · refine List.map_congr_left fun i _ => ?_
    show a + ((i + 1 : Nat) : Int) = a + 1 + (i : Int)
    omega
theorem sum_if {α : Type} (c : α → Prop) [DecidablePred c] (v : α → Nat) : ∀ l : List α, (l.filterMap fun w => if c w then some ((v w : Nat) : Int) else none).sum = (((l.map fun w => if c w then v w else 0).sum : Nat) : Int)
  | [] => rfl
  | a :: l => by
    have ih := sum_if c v l
    rw [List.filterMap_cons, List.map_cons, List.sum_cons]
    by_cases z : c a
    · rw [if_pos z, if_pos z]
      show (_ :: _).sum = _
      rw [List.sum_cons, ih, Int.natCast_add]
    · rw [if_neg z, if_neg z, Nat.zero_add]
      exact ih
theorem cast_at {l : List Nat} {k : Nat} (h : k < l.length) : atI (castL l) (k : Int) = some ((l.getD k 0 : Nat) : Int) := by
  refine atI_nat (castL_get ?_)
  rw [List.getElem?_eq_getElem h, List.getD_eq_getElem?_getD, List.getElem?_eq_getElem h]
  rfl
theorem cast_snoc (l : List Nat) (x : Nat) : castL l ++ [((x : Nat) : Int)] = castL (l ++ [x]) := by simp [castL]
theorem counts_spec {ws : List Str} {L : Nat} {n : Int} {Q : List Int → Int → Prop} (h : Wl ws) (hL : L ≤ 1000) (q : Q (castL (ctl (cds ws) L)) n) : m_counts_to ws (L : Int) n Q := by
  have h8 := h.hi
  unfold m_counts_to
  dsimp only [bnd, ret, need, turnM, atM]
  refine ⟨⟨by omega, by omega, by omega, by omega⟩, ?_⟩
  rw [show ((L : Int) + 1 - 1).toNat = L by omega]
  · skip
    refine forW_inv (fun (r : List Int) (s : List Int) m => m = n ∧ ∃ k, k ≤ L ∧ r = intsUp ((k : Int) + 1) (L - k) ∧ s = castL (ctl (cds ws) k)) ⟨rfl, 0, Nat.zero_le _, by simp, rfl⟩ ?_ ?_
    · rintro x r s m Nx ⟨rfl, k, hk, er, rfl⟩ hN
      have kL : k < L := by
        rcases Nat.lt_or_ge k L with z | z
        · exact z
        · rw [show L - k = 0 by omega] at er
          cases er
      rw [show L - k = (L - (k + 1)) + 1 by omega, ups_cons] at er
      obtain ⟨rfl, rfl⟩ := List.cons.inj er
      have cl := ctl_len (cds ws) k
      refine ⟨lk (by omega), cmpW_pure (fun w => if w.length ≤ k + 1 then some (((ctl (cds ws) k).getD (k + 1 - w.length) 0 : Nat) : Int) else none) (fun w hw n R hR => ?_) ?_⟩
      · have w1 := (isW_iff.mp (h.w w hw)).2
        refine ⟨lk (by omega), fun c => ⟨lk (by omega), ?_⟩, fun c => ?_⟩
        · have c : w.length ≤ k + 1 := by
            have := of_decide_eq_true c
            omega
          rw [if_pos c] at hR
          have := cast_at (l := ctl (cds ws) k) (k := k + 1 - w.length) (by omega)
          rw [show ((k + 1 - w.length : Nat) : Int) = (k : Int) + 1 - (w.length : Int) by omega] at this
          exact ⟨_, this, hR⟩
        · have c : ¬ w.length ≤ k + 1 := by
            have := of_decide_eq_false c
            omega
          rw [if_neg c] at hR
          exact hR
      · rw [sum_if]
        refine ⟨lk (by unfold castL; rw [List.length_map]; omega), hN _ _ ⟨rfl, k + 1, by omega, rfl, ?_⟩⟩
        rw [cast_snoc]
        show _ = castL (ctl (cds ws) k ++ [_])
        congr 3
        unfold cds
        rw [List.map_map]
        refine congrArg List.sum (List.map_congr_left fun w _ => ?_)
        show _ = if (cd w).length ≤ k + 1 then (ctl (List.map cd ws) k).getD (k + 1 - (cd w).length) 0 else 0
        rw [cd_len]
    · rintro s m ⟨rfl, k, hk, er, rfl⟩
      have : k = L := by
        rcases Nat.lt_or_ge k L with z | z
        · rw [show L - k = (L - (k + 1)) + 1 by omega, ups_cons] at er
          cases er
        · omega
      subst this
      exact q
theorem oneway_ok {s : Stk} {n : Int} {Q : Unit → Int → Prop} (h : Wl s.ws) (F : Free (mm s.ws)) (q : Q () n) : m_check_one_way s n Q := by
  unfold m_check_one_way
  dsimp only [bnd, ret, need, pc]
  exact least_spec h (fun _ => ⟨fun e => Bool.noConfusion e, fun _ => q⟩) fun z zL zl cf ls => absurd cf (F.noConf _)
theorem count_texts_spec {s : Stk} {L : Nat} {n : Int} {Q : Int → Int → Prop} (h : Wl s.ws) (F : Free (mm s.ws)) (hL : L ≤ 1000) (q : Q ((NN (cds s.ws) L : Nat) : Int) n) : m_count_texts s (L : Int) n Q := by
  unfold m_count_texts m_check_length
  dsimp only [bnd, ret, need, pc, atM]
  refine oneway_ok h F ⟨fun e => absurd (of_decide_eq_true e) (by omega), fun _ => counts_spec h hL ⟨_, cast_at (by rw [ctl_len]; omega), q⟩⟩
/-- the ends as texts -/
def stS (ws E : List Str) (y : Str) : List Str := (E ++ if ("" : Str) ∈ E then ws else []).filterMap fun e => if Txt.startswith e y = true then some (cutS e (some 1) none) else none
def sgn (c : Nat) : Str := ⟨#[c]⟩
theorem nil_mem {E : List Str} : ("" : Str) ∈ E ↔ [] ∈ E.map cd := by
  rw [List.mem_map]
  exact ⟨fun h => ⟨"", h, rfl⟩, fun ⟨x, hx, e⟩ => by rw [cd_nil_iff.mp e] at hx; exact hx⟩
theorem stS_cd (ws E : List Str) (c : Nat) : (stS ws E (sgn c)).map cd = stE (cds ws) (E.map cd) c := by
  unfold stS stE beh
  have e1 : (E.map cd ++ if [] ∈ E.map cd then cds ws else []) = (E ++ if ("" : Str) ∈ E then ws else []).map cd := by
    rw [List.map_append]
    by_cases z : ("" : Str) ∈ E
    · rw [if_pos z, if_pos (nil_mem.mp z)]
      rfl
    · rw [if_neg z, if_neg fun y => z (nil_mem.mpr y)]
      rfl
  rw [e1]
  generalize (E ++ if ("" : Str) ∈ E then ws else []) = l
  induction l with
  | nil => rfl
  | cons e l ih =>
    rw [List.filterMap_cons, List.map_cons, List.filter_cons]
    have hs : Txt.startswith e (sgn c) = true ↔ (cd e).head? = some c := by
      rw [startswith_iff]
      show [c] <+: cd e ↔ _
      cases cd e with
      | nil => simp
      | cons d t => simp [eq_comm]
    have cut1 : cd (cutS e (some 1) none) = (cd e).tail := by
      have := cut_from e 1
      rw [show (((1 : Nat) : Int)) = 1 from rfl] at this
      rw [this, List.drop_one]
    by_cases z : Txt.startswith e (sgn c) = true
    · rw [if_pos z, if_pos (by rw [hs.mp z]; exact beq_self_eq_true _)]
      show cd _ :: _ = _
      rw [List.map_cons, cut1, ← ih]
    · rw [if_neg z, if_neg fun y => z (hs.mpr (eq_of_beq y))]
      exact ih
/-- the ends are few and short -/
theorem st_small {ws E : List Str} (h : Wl ws) (F : Free fun x => x ∈ cds ws) (s : St (cds ws) (E.map cd)) : E.length ≤ 65 ∧ ∀ e ∈ E, e.length ≤ 8 := by
  obtain ⟨p, prs, I⟩ := s
  have suf1 : ∀ t ∈ E.map cd, t = [] ∨ ∃ w ∈ ws, ∃ u, cd w = u ++ t := fun t ht => by
    rw [← I.sn] at ht
    obtain ⟨q, hq, rfl⟩ := List.mem_map.mp ht
    obtain ⟨a1, a2, a3⟩ := I.ok q hq
    by_cases z : q.1 = []
    · rw [z] at a2
      exact .inl (List.append_eq_nil_iff.mp (a2.symm : p ++ q.2 = [])).2
    · obtain ⟨v, w, eu, ev⟩ := last_split z
      have l := a3 z
      rw [ev] at l
      rw [eu, List.flatten_append, List.flatten_cons, List.flatten_nil, List.append_nil] at a2
      have hw : w ∈ cds ws := a1 w (by rw [eu]; simp)
      obtain ⟨x, hx, rfl⟩ := List.mem_map.mp hw
      rcases List.append_eq_append_iff.mp a2 with ⟨t, k1, k2⟩ | ⟨t, k1, k2⟩
      · exact .inr ⟨x, hx, t, k2⟩
      · have := congrArg List.length k1
        rw [List.length_append] at this
        omega
  refine ⟨?_, fun e he => ?_⟩
  · have nd : (E.map cd).Nodup := I.nodup F
    have := nd_len nd (m := [] :: suf ws) fun t ht => by
      rcases suf1 t ht with rfl | ⟨w, hw, u, e⟩
      · exact List.mem_cons_self
      · by_cases z : t = []
        · rw [z]
          exact List.mem_cons_self
        · exact List.mem_cons_of_mem _ (suf_mem hw e z)
    rw [List.length_map, List.length_cons, suf_len] at this
    have := h.sum
    omega
  · rcases suf1 (cd e) (List.mem_map.mpr ⟨e, he, rfl⟩) with z | ⟨w, hw, u, z⟩
    · have := cd_len e
      rw [z] at this
      simp at this
      omega
    · have := congrArg List.length z
      rw [cd_len, List.length_append, cd_len] at this
      have := (isW_iff.mp (h.w w hw)).2.2
      omega
structure Ltr (ws : List Str) (ls : List Nat) : Prop where
  so : ls.Pairwise (· < ·)
  mem : ∀ c, c ∈ ls ↔ ∃ w ∈ ws, c ∈ cd w
theorem Ltr.ex {ws : List Str} (h : Wl ws) : ∃ ls, Ltr ws ls := by
  classical
  refine ⟨LET.cps.toList.filter fun c => decide (∃ w ∈ ws, c ∈ cd w), (by
    have : LET.cps.toList.Pairwise (· < ·) := by decide +kernel
    exact this.sublist List.filter_sublist), fun c => ?_⟩
  rw [List.mem_filter, decide_eq_true_eq]
  exact ⟨fun h => h.2, fun ⟨w, hw, hc⟩ => ⟨isL_iff.mp (h.l w hw) c hc, w, hw, hc⟩⟩
theorem Ltr.cnt {ws : List Str} {ls : List Nat} (l : Ltr ws ls) (h : Wl ws) (F : Free (mm ws)) : Cnt (cds ws) (NN (cds ws)) ls := by
  rw [mm_cds] at F
  exact cnt_of F (cds_nd h) l.so fun w hw c hc => by
    obtain ⟨x, hx, rfl⟩ := List.mem_map.mp hw
    exact (l.mem c).mpr ⟨x, hx, hc⟩
theorem letters_spec {ws : List Str} {ls : List Nat} {n : Int} {Q : List Str → Int → Prop} (h : Wl ws) (l : Ltr ws ls) (q : Q (ls.map sgn) n) : m_letters_in ws n Q := by
  have h8 := h.hi
  have hs := h.sum
  unfold m_letters_in
  dsimp only [bnd, ret, need]
  have cl : (catS ws).length ≤ 64 := by rw [catS_len]; exact hs
  have cm : ∀ c, c ∈ (catS ws).cps.toList ↔ ∃ w ∈ ws, c ∈ cd w := fun c => by
    rw [catS_list, List.mem_flatten]
    constructor
    · rintro ⟨t, ht, hc⟩
      obtain ⟨w, hw, rfl⟩ := List.mem_map.mp ht
      exact ⟨w, hw, hc⟩
    · rintro ⟨w, hw, hc⟩
      exact ⟨_, List.mem_map.mpr ⟨w, hw, rfl⟩, hc⟩
  have sm : ∀ y, y ∈ sgsS (catS ws) ↔ y ∈ ls.map sgn := fun y => by
    unfold sgsS
    rw [List.mem_map, List.mem_map]
    constructor
    · rintro ⟨c, hc, rfl⟩
      exact ⟨c, (l.mem c).mpr ((cm c).mp hc), rfl⟩
    · rintro ⟨c, hc, rfl⟩
      exact ⟨c, (cm c).mpr ((l.mem c).mp hc), rfl⟩
  have nls : (ls.map sgn).Nodup := List.pairwise_map.mpr (l.so.imp fun {a b} lt e => by
    have e : (⟨#[a]⟩ : Str) = ⟨#[b]⟩ := e
    have := congrArg cd e
    have : [a] = [b] := this
    have := (List.cons.inj this).1
    omega)
  have l26 : ls.length ≤ 26 := by
    have := nd_len (l := ls) (m := LET.cps.toList) (l.so.imp fun lt e => by omega) fun c hc => by
      obtain ⟨w, hw, hc'⟩ := (l.mem c).mp hc
      exact isL_iff.mp (h.l w hw) c hc'
    exact this
  have dd : (ddS (sgsS (catS ws))).length ≤ 26 := by
    have := nd_len (ddS_nd (sgsS (catS ws))) (m := ls.map sgn) fun x hx => (sm x).mp (by rwa [ddS_mem] at hx)
    rw [List.length_map] at this
    omega
  refine ⟨by show wsum ws + ws.length * 0 ≤ 16777216; omega, ?_⟩
  rw [join_cat (by rfl)]
  refine ⟨⟨by omega, by omega⟩, fun ys nd mem so => ?_⟩
  have ey : ys = ls.map sgn := by
    refine List.Perm.eq_of_pairwise (le := fun a b => ¬ cd b < cd a) (fun a b _ _ h3 h4 => cd_inj (Std.le_antisymm (List.not_lt.mp h3) (List.not_lt.mp h4))) (sortedS_pair so) ?_ (perm_of_mem nd nls fun y => by rw [mem y, sm y])
    refine List.pairwise_map.mpr (l.so.imp fun {a b} lt e => ?_)
    have e : List.Lex (· < ·) [b] [a] := e
    cases e with
    | rel h => omega
    | cons h => cases h
  rw [ey]
  exact q
theorem ends_spec {ws E : List Str} {c : Nat} {n : Int} {Q : List Str → Int → Prop} (h : Wl ws) (hE : E.length ≤ 65) (hl : ∀ e ∈ E, e.length ≤ 8) (q : Q (stS ws E (sgn c)) n) : m_ends_behind ws E (sgn c) n Q := by
  have h8 := h.hi
  unfold m_ends_behind
  dsimp only [bnd, ret, need, turnM, iteM]
  have fin : ∀ b : List Str, b.length ≤ 8 → (∀ e ∈ b, e.length ≤ 8) → b = (if ("" : Str) ∈ E then ws else []) → E.length + b.length ≤ LIM ∧ (E ++ b).length ≤ LIM ∧ cmpW (E ++ b) (fun c_end2 => bnd (ret (Txt.startswith c_end2 (sgn c))) fun b n Q => (b = true → c_end2.length ≤ LIM ∧ Q (some (cutS c_end2 (some 1) none)) n) ∧ (b = false → Q none n)) n Q := fun b b8 bl eb => by
    refine ⟨lk (by omega), lk (by rw [List.length_append]; omega), cmpW_pure (fun e => if Txt.startswith e (sgn c) = true then some (cutS e (some 1) none) else none) (fun e he n R hR => ⟨fun t => ⟨lk ?_, ?_⟩, fun t => ?_⟩) ?_⟩
    · rcases List.mem_append.mp he with he | he
      · have := hl e he
        omega
      · have := bl e he
        omega
    · rw [if_pos t] at hR
      exact hR
    · rw [if_neg (by rw [t]; decide)] at hR
      exact hR
    · unfold stS at q
      rw [← eb] at q
      exact q
  by_cases z : ("" : Str) ∈ E
  · have := fin ws h8 (fun e he => (isW_iff.mp (h.w e he)).2.2) (by rw [if_pos z])
    refine ⟨fun _ => this, fun e => ?_⟩
    simp [z] at e
  · have := fin [] (by simp) (fun e he => by simp at he) (by rw [if_neg z])
    refine ⟨fun e => ?_, fun _ => this⟩
    simp [z] at e
theorem completed_spec {ws E : List Str} {K L : Nat} {n : Int} {Q : Int → Int → Prop} (hE : E.length ≤ 1000) (hl : ∀ e ∈ E, e.length ≤ 1000) (hL : L ≤ K) (q : Q ((CE (NN (cds ws)) (E.map cd) L : Nat) : Int) n) : m_count_completed (castL (ctl (cds ws) K)) E (L : Int) n Q := by
  unfold m_count_completed
  dsimp only [bnd, ret, need, turnM, atM]
  refine ⟨lk (by omega), cmpW_pure (fun e => if e.length ≤ L then some ((NN (cds ws) (L - e.length) : Nat) : Int) else none) (fun e he n R hR => ⟨lk (by have := hl e he; omega), fun c => ⟨lk (by have := hl e he; omega), ?_⟩, fun c => ?_⟩) ?_⟩
  · have c : e.length ≤ L := by
      have := of_decide_eq_true c
      omega
    rw [if_pos c] at hR
    have := cast_at (l := ctl (cds ws) K) (k := L - e.length) (by rw [ctl_len]; omega)
    rw [ctl_get _ _ _ (by omega), show ((L - e.length : Nat) : Int) = (L : Int) - (e.length : Int) by omega] at this
    exact ⟨_, this, hR⟩
  · have c : ¬ e.length ≤ L := by
      have := of_decide_eq_false c
      omega
    rw [if_neg c] at hR
    exact hR
  · rw [sum_if]
    have : (E.map fun e => if e.length ≤ L then NN (cds ws) (L - e.length) else 0).sum = CE (NN (cds ws)) (E.map cd) L := by
      unfold CE
      rw [List.map_map]
      refine congrArg List.sum (List.map_congr_left fun e _ => ?_)
      show _ = fE (NN (cds ws)) L (cd e)
      unfold fE
      rw [cd_len]
    rw [this]
    exact q
theorem castL_len' (l : List Nat) : (castL l).length = l.length := List.length_map _
theorem sgn_at {ls : List Nat} {k : Nat} (h : k < ls.length) : atI (ls.map sgn) (k : Int) = some (sgn ls[k]) := atI_nat (by rw [List.getElem?_map, List.getElem?_eq_getElem h]; rfl)
theorem grd_drop {f : Nat → Nat} {ls : List Nat} {k i : Nat} {r : Nat × Nat} (h : grd f (ls.drop k) i = some r) : ∃ hk : k < ls.length, (i < f ls[k] → r = (ls[k], i)) ∧ (¬ i < f ls[k] → grd f (ls.drop (k + 1)) (i - f ls[k]) = some r) := by
  have hk : k < ls.length := by
    rcases Nat.lt_or_ge k ls.length with z | z
    · exact z
    · rw [List.drop_of_length_le z] at h
      cases h
  refine ⟨hk, ?_⟩
  rw [List.drop_eq_getElem_cons hk] at h
  unfold grd at h
  refine ⟨fun z => ?_, fun z => ?_⟩
  · rw [if_pos z] at h
    exact (Option.some.inj h).symm
  · rw [if_neg z] at h
    exact h
theorem letter_spec {ws E : List Str} {ls : List Nat} {K L i c l : Nat} {n : Int} {Q : Str × Int → Int → Prop} (h : Wl ws) (F : Free (mm ws)) (lt : Ltr ws ls) (s : St (cds ws) (E.map cd)) (hL : L ≤ K)
    (g : grd (fun d => CE (NN (cds ws)) (stE (cds ws) (E.map cd) d) L) ls i = some (c, l)) (q : Q (sgn c, (l : Int)) n) : m_letter_at_index ws (castL (ctl (cds ws) K)) E (L : Int) (i : Int) n Q := by
  have Kc := lt.cnt h F
  obtain ⟨e65, e8⟩ := st_small h Kc.F s
  have comp : ∀ (d : Nat) (n : Int) (Q : Int → Int → Prop), Q ((CE (NN (cds ws)) (stE (cds ws) (E.map cd) d) L : Nat) : Int) n → m_count_completed (castL (ctl (cds ws) K)) (stS ws E (sgn d)) (L : Int) n Q := fun d n Q q => by
    have s' : St (cds ws) ((stS ws E (sgn d)).map cd) := by
      rw [stS_cd]
      exact s.step Kc d
    obtain ⟨a, b⟩ := st_small h Kc.F s'
    refine completed_spec (by omega) (fun e he => by have := b e he; omega) hL ?_
    rw [stS_cd]
    exact q
  unfold m_letter_at_index
  dsimp only [bnd, ret, need, pc, atM]
  refine letters_spec h lt ?_
  have g0 : grd (fun d => CE (NN (cds ws)) (stE (cds ws) (E.map cd) d) L) (ls.drop 0) i = some (c, l) := by rw [List.drop_zero]; exact g
  obtain ⟨hk0, _⟩ := grd_drop g0
  refine ⟨_, sgn_at (k := 0) hk0, ends_spec h e65 e8 (comp _ _ _ ?_)⟩
  refine whileW_inv (fun (t : Int × Int × Int) m => m = n ∧ ∃ (k i' : Nat) (hk : k < ls.length), t = ((k : Int), (i' : Int), ((CE (NN (cds ws)) (stE (cds ws) (E.map cd) ls[k]) L : Nat) : Int)) ∧ grd (fun d => CE (NN (cds ws)) (stE (cds ws) (E.map cd) d) L) (ls.drop k) i' = some (c, l)) (fun t => ls.length - t.1.toNat) ?_ ⟨rfl, 0, i, hk0, rfl, g0⟩
  rintro t m W ⟨rfl, k, i', hk, rfl, gk⟩ hW
  obtain ⟨_, g1, g2⟩ := grd_drop gk
  dsimp only
  refine ⟨fun e => ?_, fun e => ?_⟩
  · have e := of_decide_eq_true e
    have e : ¬ i' < CE (NN (cds ws)) (stE (cds ws) (E.map cd) ls[k]) L := by omega
    have g3 := g2 e
    obtain ⟨hk1, _⟩ := grd_drop g3
    refine ⟨_, by
      have := sgn_at hk1
      rw [show ((k + 1 : Nat) : Int) = (k : Int) + 1 by omega] at this
      exact this, ends_spec h e65 e8 (comp _ _ _ (hW _ _ ⟨rfl, k + 1, i' - CE (NN (cds ws)) (stE (cds ws) (E.map cd) ls[k]) L, hk1, ?_, g3⟩ ?_))⟩
    · refine Prod.ext ?_ (Prod.ext ?_ rfl)
      · show (k : Int) + 1 = ((k + 1 : Nat) : Int)
        omega
      · show (i' : Int) - ((CE (NN (cds ws)) (stE (cds ws) (E.map cd) ls[k]) L : Nat) : Int) = ((i' - CE (NN (cds ws)) (stE (cds ws) (E.map cd) ls[k]) L : Nat) : Int)
        omega
    · show ls.length - ((k : Int) + 1).toNat < ls.length - ((k : Int)).toNat
      omega
  · have e := of_decide_eq_false e
    have e : i' < CE (NN (cds ws)) (stE (cds ws) (E.map cd) ls[k]) L := by omega
    have := g1 e
    obtain ⟨rfl, rfl⟩ := Prod.mk.inj this
    exact ⟨_, sgn_at hk, q⟩
theorem flat_sgn : ∀ D : List Nat, (List.map ((fun y => y.cps.toList) ∘ sgn) D).flatten = D
  | [] => rfl
  | a :: D => by
    rw [List.map_cons, List.flatten_cons, flat_sgn D]
    rfl
theorem less_filter (ws E : List Str) (c : Nat) : ∀ ls : List Nat, (ls.map sgn).filterMap (fun y : Str => if decide (y.cps.toList < (sgn c).cps.toList) = true then some (stS ws E y) else none) = (ls.filter fun d => decide (d < c)).map fun d => stS ws E (sgn d)
  | [] => rfl
  | d :: ls => by
    rw [List.map_cons, List.filterMap_cons, List.filter_cons]
    have hd : ((sgn d).cps.toList < (sgn c).cps.toList) ↔ d < c := by
      show [d] < [c] ↔ d < c
      constructor
      · intro e
        have e : List.Lex (· < ·) [d] [c] := e
        cases e with
        | rel h => exact h
        | cons h => cases h
      · intro e
        exact List.Lex.rel e
    by_cases zz : d < c
    · rw [if_pos (decide_eq_true (hd.mpr zz)), if_pos (decide_eq_true zz), List.map_cons, ← less_filter ws E c ls]
    · rw [if_neg fun e => zz (hd.mp (of_decide_eq_true e)), if_neg fun e => zz (of_decide_eq_true e)]
      exact less_filter ws E c ls
theorem CE_one {N : Nat → Nat} {L : Nat} : CE N [[]] L = N L := by
  unfold CE
  have : fE N L [] = N L := if_pos (Nat.zero_le _)
  simp [this]
theorem nth_text_spec {s : Stk} {ls : List Nat} {L i : Nat} {n : Int} {Q : Str → Int → Prop} (h : Wl s.ws) (F : Free (mm s.ws)) (lt : Ltr s.ws ls) (hL : L ≤ 1000) (hi : i < NN (cds s.ws) L)
    (q : Q ⟨(NT (cds s.ws) (NN (cds s.ws)) ls [[]] L i).toArray⟩ n) : m_nth_text s (L : Int) (i : Int) n Q := by
  have Kc := lt.cnt h F
  unfold m_nth_text m_check_length
  dsimp only [bnd, ret, need, pc, notM, atM]
  refine oneway_ok h F ⟨fun e => absurd (of_decide_eq_true e) (by omega), fun _ => counts_spec h hL ⟨fun _ => ⟨_, cast_at (by rw [ctl_len]; omega), fun e => ?_, fun _ => ⟨⟨by omega, by omega⟩, ?_⟩⟩, fun e => absurd (of_decide_eq_false e) (by omega)⟩⟩
  · rw [ctl_get _ _ _ (Nat.le_refl _), decide_eq_true (show (i : Int) < ((NN (cds s.ws) L : Nat) : Int) by omega)] at e
    cases e
  rw [Int.toNat_natCast]
  refine forW_inv (fun (r : List Int) (t : List Str × List Str × Int) m => m = n ∧ ∃ (k i' : Nat) (E : List Str) (D : List Nat), k ≤ L ∧ r = (intsUp 0 k).reverse ∧ t = (D.map sgn, E, (i' : Int)) ∧ St (cds s.ws) (E.map cd) ∧ D.length + k = L ∧ i' < CE (NN (cds s.ws)) (E.map cd) k ∧ D ++ NT (cds s.ws) (NN (cds s.ws)) ls (E.map cd) k i' = NT (cds s.ws) (NN (cds s.ws)) ls [[]] L i)
    ⟨rfl, L, i, [""], [], Nat.le_refl _, rfl, rfl, St.ini _, by simp, by show i < CE _ [[]] L; rw [CE_one]; exact hi, rfl⟩ ?_ ?_
  · rintro x r t m Nx ⟨rfl, k, i', E, D, hk, er, rfl, st, hD, hi', hNT⟩ hN
    cases k with
    | zero => simp [intsUp] at er
    | succ k =>
      rw [ups_rev] at er
      obtain ⟨rfl, rfl⟩ := List.cons.inj er
      rw [st.sum Kc] at hi'
      obtain ⟨c, l, c1, c2, c3, c4⟩ := grd_some (fun d => CE (NN (cds s.ws)) (stE (cds s.ws) (E.map cd) d) k) Kc.so hi'
      obtain ⟨e65, e8⟩ := st_small h Kc.F st
      dsimp only
      refine letter_spec (K := L) h F lt st (by omega) c4 ⟨lk (by rw [List.length_map]; omega), ends_spec h e65 e8 (hN _ _ ⟨rfl, k, l, stS s.ws E (sgn c), D ++ [c], by omega, rfl, by rw [List.map_append]; rfl, ?_, by rw [List.length_append, List.length_singleton]; omega, ?_, ?_⟩)⟩
      · rw [stS_cd]
        exact st.step Kc c
      · rw [stS_cd]
        exact c2
      · rw [← hNT, stS_cd, List.append_assoc]
        congr 1
        have : NT (cds s.ws) (NN (cds s.ws)) ls (E.map cd) (k + 1) i' = c :: NT (cds s.ws) (NN (cds s.ws)) ls (stE (cds s.ws) (E.map cd) c) k l := by
          show (match grd (fun d => CE (NN (cds s.ws)) (stE (cds s.ws) (E.map cd) d) k) ls i' with
            | some (c, l) => c :: NT (cds s.ws) (NN (cds s.ws)) ls (stE (cds s.ws) (E.map cd) c) k l
            | none => []) = _
          rw [c4]
        rw [this]
        rfl
  · rintro t m ⟨rfl, k, i', E, D, hk, er, rfl, st, hD, hi', hNT⟩
    have k0 : k = 0 := by
      cases k with
      | zero => rfl
      | succ k =>
        rw [ups_rev] at er
        cases er
    subst k0
    have hNT : D ++ [] = NT (cds s.ws) (NN (cds s.ws)) ls [[]] L i := hNT
    rw [List.append_nil] at hNT
    dsimp only
    have so := sum_ones (D.map sgn) fun u hu => by
      obtain ⟨c, _, rfl⟩ := List.mem_map.mp hu
      exact ⟨c, rfl⟩
    refine ⟨by rw [so, List.length_map]; show D.length + D.length * 0 ≤ 16777216; omega, ?_⟩
    rw [join_cat (by rfl)]
    have : catS (D.map sgn) = ⟨(NT (cds s.ws) (NN (cds s.ws)) ls [[]] L i).toArray⟩ := cd_inj (by
      show (catS _).cps.toList = _
      rw [catS_list, List.map_map, ← hNT]
      show _ = (D.toArray).toList
      rw [List.toList_toArray]
      exact flat_sgn D)
    rw [this]
    exact q
theorem text_index_spec {s : Stk} {ls : List Nat} {z : Str} {n : Int} {Q : Int → Int → Prop} (h : Wl s.ws) (F : Free (mm s.ws)) (lt : Ltr s.ws ls) (hz : z.length ≤ 1000) (mz : Made (mm s.ws) (cd z))
    (q : Q ((IX (cds s.ws) (NN (cds s.ws)) ls [[]] (cd z) : Nat) : Int) n) : m_text_index s z n Q := by
  have Kc := lt.cnt h F
  have h8 := h.hi
  have zl := cd_len z
  have l26 : ls.length ≤ 26 := by
    have := nd_len (l := ls) (m := LET.cps.toList) Kc.nd fun c hc => by
      obtain ⟨w, hw, hc'⟩ := (lt.mem c).mp hc
      exact isL_iff.mp (h.l w hw) c hc'
    exact this
  unfold m_text_index
  dsimp only [bnd, ret, need, pc, notM, atM, turnM]
  refine oneway_ok h F (is_made_spec h.lenM (by omega) (by omega) fun b hb => ?_)
  obtain rfl : b = true := hb.mpr mz
  refine ⟨fun e => Bool.noConfusion e, fun _ => ⟨lk (by omega), counts_spec h hz (letters_spec h lt ⟨lk (by omega), ?_⟩)⟩⟩
  refine forW_inv (fun (r : List Str) (t : Int × List Str × Int) m => m = n ∧ ∃ (x : Nat) (E : List Str) (rest : List Nat), r = rest.map sgn ∧ t = ((x : Int), E, (rest.length : Int)) ∧ St (cds s.ws) (E.map cd) ∧ rest.length ≤ z.length ∧ x + IX (cds s.ws) (NN (cds s.ws)) ls (E.map cd) rest = IX (cds s.ws) (NN (cds s.ws)) ls [[]] (cd z))
    ⟨rfl, 0, [""], cd z, rfl, by rw [zl]; rfl, St.ini _, by omega, Nat.zero_add _⟩ ?_ ?_
  · rintro y r t m Nx ⟨rfl, x, E, rest, er, rfl, st, hrl, hx⟩ hN
    match rest, er with
    | c :: u, er =>
      obtain ⟨rfl, rfl⟩ := List.cons.inj er
      obtain ⟨e65, e8⟩ := st_small h Kc.F st
      rw [List.length_cons] at hrl
      dsimp only
      have eb : (((c :: u).length : Nat) : Int) - 1 = ((u.length : Nat) : Int) := by rw [List.length_cons]; omega
      rw [eb]
      refine ⟨lk (by rw [List.length_map]; omega), cmpW_pure (fun y : Str => if decide (y.cps.toList < (sgn c).cps.toList) = true then some (stS s.ws E y) else none) (fun y hy n R hR => ⟨fun e => ?_, fun e => ?_⟩) ?_⟩
      · obtain ⟨d, hd, rfl⟩ := List.mem_map.mp hy
        rw [if_pos e] at hR
        exact ends_spec h e65 e8 hR
      · rw [if_neg (by rw [e]; decide)] at hR
        exact hR
      have ef : (ls.map sgn).filterMap (fun y : Str => if decide (y.cps.toList < (sgn c).cps.toList) = true then some (stS s.ws E y) else none) = (ls.filter fun d => decide (d < c)).map fun d => stS s.ws E (sgn d) := by
        exact less_filter s.ws E c ls
      rw [ef]
      refine ⟨lk (by
        have := List.length_filter_le (fun d => decide (d < c)) ls
        rw [List.length_map]
        omega), cmpW_pure (fun R : List Str => some ((CE (NN (cds s.ws)) (R.map cd) u.length : Nat) : Int)) (fun R hR n Q' hQ => ⟨fun _ => ?_, fun e => Bool.noConfusion e⟩) ?_⟩
      · obtain ⟨d, hd, rfl⟩ := List.mem_map.mp hR
        have s' : St (cds s.ws) ((stS s.ws E (sgn d)).map cd) := by
          rw [stS_cd]
          exact st.step Kc d
        obtain ⟨a, b⟩ := st_small h Kc.F s'
        exact completed_spec (by omega) (fun e he => by have := b e he; omega) (by omega) hQ
      · have es : (((ls.filter fun d => decide (d < c)).map fun d => stS s.ws E (sgn d)).filterMap fun R : List Str => some ((CE (NN (cds s.ws)) (R.map cd) u.length : Nat) : Int)).sum = ((((ls.filter fun d => decide (d < c)).map fun d => CE (NN (cds s.ws)) (stE (cds s.ws) (E.map cd) d) u.length).sum : Nat) : Int) := by
          generalize ls.filter (fun d => decide (d < c)) = l2
          induction l2 with
          | nil => rfl
          | cons d l2 ih =>
            rw [List.map_cons, List.filterMap_cons]
            show (_ :: _).sum = _
            rw [List.sum_cons, ih, List.map_cons, List.sum_cons, stS_cd, Int.natCast_add]
        rw [es]
        refine ends_spec h e65 e8 (hN _ _ ⟨rfl, x + ((ls.filter fun d => decide (d < c)).map fun d => CE (NN (cds s.ws)) (stE (cds s.ws) (E.map cd) d) u.length).sum, stS s.ws E (sgn c), u, rfl, by rw [Int.natCast_add], ?_, by omega, ?_⟩)
        · rw [stS_cd]
          exact st.step Kc c
        · rw [← hx, stS_cd]
          show _ = x + (_ + _)
          omega
  · rintro t m ⟨rfl, x, E, rest, er, rfl, st, hrl, hx⟩
    have : rest = [] := by
      cases rest with
      | nil => rfl
      | cons a b => cases er
    subst this
    have hx : x + 0 = IX (cds s.ws) (NN (cds s.ws)) ls [[]] (cd z) := hx
    rw [Nat.add_zero] at hx
    rw [← hx] at q
    exact q
end WH
namespace WH
open PySem PySem.Spec PyProof.Rows L2
open Enc (enc)
open EncL (encl)
theorem CE_nul {N : Nat → Nat} (h0 : N 0 = 1) : ∀ E : List (List Nat), CE N E 0 = E.count []
  | [] => rfl
  | e :: E => by
    have ih := CE_nul h0 E
    unfold CE at ih ⊢
    rw [List.map_cons, List.sum_cons, ih, List.count_cons]
    unfold fE
    cases e with
    | nil =>
      rw [if_pos (show ([] : List Nat).length ≤ 0 from Nat.le_refl _), show 0 - ([] : List Nat).length = 0 from rfl, h0, if_pos (by rfl)]
      omega
    | cons c t =>
      rw [if_neg (by simp), if_neg (by simp)]
      omega
/-- the text of an index is made, and has this index -/
theorem NT_end {W : List (List Nat)} {N : Nat → Nat} {ls : List Nat} (K : Cnt W N ls) : ∀ (L : Nat) (E : List (List Nat)) (i : Nat), St W E → i < CE N E L →
    (NT W N ls E L i).length = L ∧ (∀ c ∈ NT W N ls E L i, c ∈ ls) ∧ [] ∈ (NT W N ls E L i).foldl (stE W) E ∧ IX W N ls E (NT W N ls E L i) = i
  | 0, E, i, s, h => by
    rw [CE_nul K.N0] at h
    have nd := s.nodup K.F
    have c1 : E.count [] ≤ 1 := List.nodup_iff_count.mp nd []
    have mem : [] ∈ E := List.count_pos_iff.mp (by omega)
    refine ⟨rfl, fun c hc => by simp [NT] at hc, mem, ?_⟩
    show 0 = i
    omega
  | L + 1, E, i, s, h => by
    rw [s.sum K] at h
    obtain ⟨c, l, h1, h2, h3, h4⟩ := grd_some (fun c => CE N (stE W E c) L) K.so h
    obtain ⟨a1, a2, a3, a4⟩ := NT_end K L (stE W E c) l (s.step K c) h2
    have e : NT W N ls E (L + 1) i = c :: NT W N ls (stE W E c) L l := by
      conv => lhs; unfold NT
      rw [h4]
    rw [e]
    refine ⟨by rw [List.length_cons, a1], fun d hd => (List.mem_cons.mp hd).elim (fun z => z ▸ h1) (a2 d), a3, ?_⟩
    unfold IX
    rw [a1, a4]
    exact h3.symm
end WH
namespace WH
open PySem PySem.Spec PyProof.Rows L2
open Enc (enc)
open EncL (encl)
/-- the text of an index -/
def txI (ws : List Str) (ls : List Nat) (L i : Nat) : Str := ⟨(NT (cds ws) (NN (cds ws)) ls [[]] L i).toArray⟩
theorem txI_cd (ws : List Str) (ls : List Nat) (L i : Nat) : cd (txI ws ls L i) = NT (cds ws) (NN (cds ws)) ls [[]] L i := by simp [txI]
theorem mem_ls {ws : List Str} {ls : List Nat} (lt : Ltr ws ls) {t : List Nat} (m : Made (mm ws) t) : ∀ c ∈ t, c ∈ ls := by
  intro c hc
  obtain ⟨u, u1, u2⟩ := made_row m
  rw [← u2] at hc
  obtain ⟨t, ht, hc⟩ := List.mem_flatten.mp hc
  obtain ⟨w, hw, rfl⟩ := u1 t ht
  exact (lt.mem c).mpr ⟨w, hw, hc⟩
theorem end_of {ws : List Str} {ls : List Nat} (h : Wl ws) (F : Free (mm ws)) (lt : Ltr ws ls) {t : List Nat} (m : Made (mm ws) t) : [] ∈ t.foldl (stE (cds ws)) [[]] := by
  have Kc := lt.cnt h F
  obtain ⟨u, u1, u2⟩ := made_row m
  rw [← u2]
  refine made_end Kc.F Kc.wn fun t ht => ?_
  have := u1 t ht
  rw [mm_cds] at this
  exact this
theorem txI_spec {ws : List Str} {ls : List Nat} {L i : Nat} (h : Wl ws) (F : Free (mm ws)) (lt : Ltr ws ls) (hi : i < NN (cds ws) L) :
    (txI ws ls L i).length = L ∧ isL (txI ws ls L i) = true ∧ Made (mm ws) (cd (txI ws ls L i)) ∧ IX (cds ws) (NN (cds ws)) ls [[]] (cd (txI ws ls L i)) = i ∧ ∀ j, j < i → (txI ws ls L j).cps.toList < (txI ws ls L i).cps.toList := by
  have Kc := lt.cnt h F
  obtain ⟨a1, a2, a3, a4⟩ := NT_end Kc L [[]] i (St.ini _) (by rw [CE_one]; exact hi)
  have e := txI_cd ws ls L i
  refine ⟨by rw [← cd_len, e]; exact a1, isL_iff.mpr fun c hc => ?_, ?_, by rw [e]; exact a4, fun j hj => ?_⟩
  · obtain ⟨w, hw, hc'⟩ := (lt.mem c).mp (a2 c (e ▸ hc))
    exact isL_iff.mp (h.l w hw) c hc'
  · obtain ⟨u, u1, u2⟩ := end_made Kc.F Kc.wn a3
    rw [e, ← u2]
    rw [mm_cds]
    exact row_made u1
  · show cd _ < cd _
    rw [txI_cd, e]
    have := NT_lt Kc _ [[]] j (St.ini _) a2 a3 (by rw [a4]; exact hj)
    rw [a1] at this
    exact this
theorem IX_spec {ws : List Str} {ls : List Nat} {z : Str} (h : Wl ws) (F : Free (mm ws)) (lt : Ltr ws ls) (m : Made (mm ws) (cd z)) :
    IX (cds ws) (NN (cds ws)) ls [[]] (cd z) < NN (cds ws) z.length ∧ txI ws ls z.length (IX (cds ws) (NN (cds ws)) ls [[]] (cd z)) = z := by
  have Kc := lt.cnt h F
  have zl := cd_len z
  have a := IX_lt Kc (cd z) [[]] (St.ini _) (mem_ls lt m) (end_of h F lt m)
  rw [CE_one, zl] at a
  refine ⟨a, cd_inj ?_⟩
  rw [txI_cd]
  have b := NT_IX Kc (cd z) [[]] (St.ini _) (mem_ls lt m) (end_of h F lt m)
  rw [zl] at b
  exact b
theorem NN_pow {W : List (List Nat)} (ne : ∀ w ∈ W, w ≠ []) (l8 : W.length ≤ 8) : ∀ k L, L ≤ k → NN W L ≤ 8 ^ L
  | 0, L, h => by
    obtain rfl : L = 0 := by omega
    rw [NN_zero]
    decide
  | k + 1, 0, h => by
    rw [NN_zero]
    decide
  | k + 1, L + 1, h => by
    rw [NN_succ ne]
    have ih := NN_pow ne l8 k
    have each : ∀ w ∈ W, fE (NN W) (L + 1) w ≤ 8 ^ L := fun w hw => by
      unfold fE
      have := List.length_pos_iff.mpr (ne w hw)
      split
      · exact Nat.le_trans (ih _ (by omega)) (Nat.pow_le_pow_right (by decide) (by omega))
      · exact Nat.zero_le _
    have sm : ∀ l : List (List Nat), (∀ w ∈ l, fE (NN W) (L + 1) w ≤ 8 ^ L) → (l.map (fE (NN W) (L + 1))).sum ≤ l.length * 8 ^ L := by
      intro l
      induction l with
      | nil => intro _; simp
      | cons a l ih =>
        intro hl
        rw [List.map_cons, List.sum_cons, List.length_cons, Nat.succ_mul]
        have h1 := hl a List.mem_cons_self
        have h2 := ih fun w hw => hl w (List.mem_cons_of_mem _ hw)
        omega
    have := sm W each
    unfold CE
    calc _ ≤ W.length * 8 ^ L := this
      _ ≤ 8 * 8 ^ L := Nat.mul_le_mul_right _ l8
      _ = 8 ^ (L + 1) := by rw [Nat.pow_succ, Nat.mul_comm]
theorem NN_lim {ws : List Str} (h : Wl ws) {L : Nat} (hL : L ≤ 400) : ((NN (cds ws) L : Nat) : Int) < 21827015817904833863457681603012246715478074452379864515884587103873627449560106895696963969707827128890654172547448324051715628724804051079035421417909404592607864048874622226578923008109489266041467794720428782962225818417335587552808143703377466447327078929528071553890997418125176297836982738649704147131182816329760549952182677382067300396177662137568983831207677967583314011706544357376 := by
  have ne : ∀ w ∈ cds ws, w ≠ [] := fun w hw e => by
    obtain ⟨x, hx, rfl⟩ := List.mem_map.mp hw
    have a := (isW_iff.mp (h.w x hx)).2.1
    have b := cd_len x
    rw [e] at b
    simp at b
    omega
  have a := NN_pow ne (by show (ws.map cd).length ≤ 8; rw [List.length_map]; exact h.hi) L L (Nat.le_refl _)
  have b : 8 ^ L ≤ 8 ^ 400 := Nat.pow_le_pow_right (by decide) hL
  exact Int.ofNat_lt.mpr (Nat.lt_of_le_of_lt (Nat.le_trans a b) (by decide +kernel))
theorem NN_log {ws : List Str} (h : Wl ws) {L k : Nat} (hL : L ≤ 400) (hk : k ≤ NN (cds ws) L) : shOk (enc ((k : Nat) : Int)) := by
  have a := NN_lim h hL
  have b : k < 2 ^ 1919 := Nat.lt_of_le_of_lt hk (Nat.lt_trans (Int.ofNat_lt.mp a) (by decide +kernel))
  show Nat.log2 _ < 1920
  exact Nat.lt_succ_of_lt (log_small (n := ((k : Nat) : Int)) (b := 1919) (by rw [Int.natAbs_natCast]; exact b) (by decide))
end WH
namespace WH
open PySem PySem.Spec PyProof.Rows L2
open Enc (enc)
open EncL (encl)
/-- all texts up to a length, by length, sorted, at most 700 of each -/
structure FewOk (ws : List Str) (L : Nat) (F : List (List Str)) : Prop where
  len : F.length = L + 1
  ok : ∀ i, i ≤ L → ∃ l, F[i]? = some l ∧ l.Nodup ∧ sortedS l = true ∧ l.length ≤ 700 ∧ ∀ y, y ∈ l ↔ (y.length = i ∧ Made (mm ws) (cd y))
theorem ups_cons' (a : Int) (m : Nat) : intsUp a (m + 1) = a :: intsUp (a + 1) m := by
  unfold intsUp
  rw [List.range_succ_eq_map, List.map_cons, List.map_map]
  congr 1
  · simp
  · refine List.map_congr_left fun k _ => ?_
    simp only [Function.comp]
    push_cast
    omega
theorem nd_lenS : ∀ {l m : List Str}, l.Nodup → (∀ y ∈ l, y ∈ m) → l.length ≤ m.length
  | [], _, _, _ => Nat.zero_le _
  | a :: l, m, nd, h => by
    obtain ⟨n1, n2⟩ := List.nodup_cons.mp nd
    have ha := h a List.mem_cons_self
    have := nd_lenS (l := l) (m := m.erase a) n2 fun y hy => (List.mem_erase_of_ne (fun e => n1 (by rw [← e]; exact hy))).mpr (h y (List.mem_cons_of_mem _ hy))
    rw [List.length_erase_of_mem ha] at this
    have := List.length_pos_of_mem ha
    rw [List.length_cons]
    omega
theorem few_spec {ws : List Str} {L : Nat} {n : Int} {Q : List (List Str) → Int → Prop} (h : Wl ws) (hL : L ≤ 1000) (q : ∀ F k, k ≤ L → FewOk ws k F → Q F n) : m_law_few ws (L : Int) n Q := by
  have lk : ∀ {k : Nat}, k ≤ 1000000 → k ≤ LIM := fun hk => hk
  have h8 := h.hi
  unfold m_law_few
  dsimp only [bnd, ret, need, turnM, atM]
  refine ⟨⟨by omega, by omega, by omega, by omega⟩, ?_⟩
  rw [show ((L : Int) + 1 - 1).toNat = L by omega]
  refine forW_inv (fun (r : List Int) (F : List (List Str)) m => m = n ∧ ∃ k, k ≤ L ∧ r = intsUp ((k : Int) + 1) (L - k) ∧ FewOk ws k F) ⟨rfl, 0, Nat.zero_le _, by simp, rfl, fun i hi => ?_⟩ ?_ ?_
  · obtain rfl : i = 0 := by omega
    refine ⟨[""], rfl, by simp, rfl, by simp, fun y => ?_⟩
    rw [List.mem_singleton]
    constructor
    · rintro rfl
      exact ⟨rfl, Made.nil⟩
    · rintro ⟨e, _⟩
      refine cd_inj ?_
      have : (cd y).length = 0 := by rw [cd_len, e]
      rw [List.length_eq_zero_iff.mp this]
      rfl
  · rintro x r F m Nx ⟨rfl, k, hk, er, ok⟩ hN
    have kL : k < L := by
      rcases Nat.lt_or_ge k L with z | z
      · exact z
      · rw [show L - k = 0 by omega] at er
        cases er
    rw [show L - k = (L - (k + 1)) + 1 by omega, ups_cons'] at er
    obtain ⟨rfl, rfl⟩ := List.cons.inj er
    refine forW_inv (fun (r here : List Str) m' => m' = m ∧ ∃ D : List Str, ws = D ++ r ∧ here.length ≤ D.length * 700 ∧ ∀ y, y ∈ here ↔ ∃ w ∈ D, ∃ z, cd y = z ++ cd w ∧ y.length = k + 1 ∧ Made (mm ws) z) ⟨rfl, [], rfl, by simp, fun y => by simp⟩ ?_ ?_
    · rintro w r here m' Ny ⟨rfl, D, eD, hl, hm⟩ hNy
      have hw : w ∈ ws := by rw [eD]; simp
      have w1 := (isW_iff.mp (h.w w hw)).2
      have dl : D.length + 1 ≤ ws.length := by rw [eD]; simp
      refine ⟨lk (by omega), fun e => ?_, fun e => ?_⟩
      · have e := of_decide_eq_true e
        obtain ⟨l, hl1, lnd, lso, lle, lmem⟩ := ok.ok (k + 1 - w.length) (by omega)
        have at' := atI_nat (xs := F) (j := k + 1 - w.length) hl1
        rw [show ((k + 1 - w.length : Nat) : Int) = (k : Int) + 1 - (w.length : Int) by omega] at at'
        refine ⟨lk (by omega), l, at', lk (by omega), cmpW_pure (fun z : Str => some (z ++ w)) (fun z hz n R hR => ⟨fun _ => ⟨lk ?_, hR⟩, fun e => Bool.noConfusion e⟩) ?_⟩
        · have := ((lmem z).mp hz).1
          omega
        · have ef : l.filterMap (fun z : Str => some (z ++ w)) = l.map (· ++ w) := by rw [← List.filterMap_eq_map]; rfl
          rw [ef]
          refine ⟨lk (by rw [List.length_map]; omega), hNy _ _ ⟨rfl, D ++ [w], by rw [eD]; simp, by rw [List.length_append, List.length_map, List.length_append, List.length_singleton]; omega, fun y => ?_⟩⟩
          rw [List.mem_append, hm, List.mem_map]
          constructor
          · rintro (⟨u, hu, z, a⟩ | ⟨z, hz, rfl⟩)
            · exact ⟨u, by simp [hu], z, a⟩
            · obtain ⟨a, b⟩ := (lmem z).mp hz
              refine ⟨w, by simp, cd z, cd_app z w, ?_, b⟩
              rw [← cd_len, cd_app, List.length_append, cd_len, cd_len]
              omega
          · rintro ⟨u, hu, z, a, b, cc⟩
            rcases List.mem_append.mp hu with hu | hu
            · exact .inl ⟨u, hu, z, a, b, cc⟩
            · obtain rfl := List.mem_singleton.mp hu
              refine .inr ⟨⟨z.toArray⟩, (lmem _).mpr ⟨?_, by simpa using cc⟩, cd_inj (by rw [cd_app, a])⟩
              have := congrArg List.length a
              rw [cd_len, List.length_append, cd_len] at this
              show z.toArray.size = _
              rw [List.size_toArray]
              omega
      · have e := of_decide_eq_false e
        refine hNy _ _ ⟨rfl, D ++ [w], by rw [eD]; simp, by rw [List.length_append, List.length_singleton]; omega, fun y => ?_⟩
        rw [hm]
        constructor
        · rintro ⟨u, hu, z, a⟩
          exact ⟨u, by simp [hu], z, a⟩
        · rintro ⟨u, hu, z, a, b, cc⟩
          rcases List.mem_append.mp hu with hu | hu
          · exact ⟨u, hu, z, a, b, cc⟩
          · obtain rfl := List.mem_singleton.mp hu
            have := congrArg List.length a
            rw [cd_len, List.length_append, cd_len] at this
            omega
    · rintro here m' ⟨rfl, D, eD, hl, hm⟩
      rw [List.append_nil] at eD
      subst eD
      have mem : ∀ y, y ∈ here ↔ (y.length = k + 1 ∧ Made (mm ws) (cd y)) := fun y => by
        rw [hm]
        constructor
        · rintro ⟨w, hw, z, a, b, cc⟩
          refine ⟨b, ?_⟩
          rw [a]
          exact cc.cat (.one (mm_mem.mpr hw))
        · rintro ⟨a, b⟩
          have ne : cd y ≠ [] := fun e => by
            rw [← cd_len, e] at a
            cases a
          obtain ⟨z, x, mz, ⟨w, hw, rfl⟩, e⟩ := made_last b ne
          exact ⟨w, hw, z, e, a, mz⟩
      refine ⟨fun e => q F k hk ok, fun e => ?_⟩
      have e : here.length ≤ 700 := by
        have := of_decide_eq_false e
        omega
      refine ⟨by omega, fun ys nd my so => ⟨lk (by rw [ok.len]; omega), hN _ _ ⟨rfl, k + 1, by omega, rfl, ?_, fun i hi => ?_⟩⟩⟩
      · rw [List.length_append, ok.len]; rfl
      · by_cases z : i = k + 1
        · subst z
          refine ⟨ys, by rw [List.getElem?_append_right (by rw [ok.len]; omega), ok.len]; simp, nd, so, ?_, fun y => by rw [my, mem]⟩
          exact Nat.le_trans (nd_lenS nd fun y hy => (my y).mp hy) e
        · obtain ⟨l, a, b⟩ := ok.ok i (by omega)
          exact ⟨l, by rw [List.getElem?_append_left (by rw [ok.len]; omega)]; exact a, b⟩
  · rintro F m ⟨rfl, k, hk, er, ok⟩
    exact q F k hk ok
end WH
namespace WH
open PySem PySem.Spec PyProof.Rows L2
open Enc (enc)
open EncL (encl)
theorem cutL_sub41 {α : Type} {xs : List α} {lo hi : Option Int} {x : α} (h : x ∈ cutL xs lo hi) : x ∈ xs := by
  unfold cutL at h
  exact List.mem_of_mem_drop (List.mem_of_mem_take h)
theorem few_eq {ws : List Str} {ls : List Nat} {k i : Nat} {F : List (List Str)} {l : List Str} (h : Wl ws) (Fr : Free (mm ws)) (lt : Ltr ws ls) (ok : FewOk ws k F) (hi : F[i]? = some l) : i ≤ k ∧ l.length ≤ 700 ∧ l = (List.range (NN (cds ws) i)).map (txI ws ls i) := by
  have ik : i ≤ k := by
    have := (List.getElem?_eq_some_iff.mp hi).1
    rw [ok.len] at this
    omega
  obtain ⟨l', e, nd, so, l7, mem⟩ := ok.ok i ik
  rw [hi] at e
  obtain rfl := Option.some.inj e
  refine ⟨ik, l7, ?_⟩
  have pw : ((List.range (NN (cds ws) i)).map (txI ws ls i)).Pairwise (fun a b => cd a < cd b) := by
    rw [List.pairwise_map]
    refine (List.pairwise_lt_range (n := NN (cds ws) i)).imp_of_mem fun {a b} _ hb ab => ?_
    exact (txI_spec h Fr lt (List.mem_range.mp hb)).2.2.2.2 a ab
  have nd2 : ((List.range (NN (cds ws) i)).map (txI ws ls i)).Nodup := pw.imp fun {a b} ab e => by
    rw [e] at ab
    exact List.lt_irrefl _ ab
  have sm : ∀ y, y ∈ l ↔ y ∈ (List.range (NN (cds ws) i)).map (txI ws ls i) := fun y => by
    rw [mem, List.mem_map]
    constructor
    · rintro ⟨rfl, m⟩
      obtain ⟨a, b⟩ := IX_spec h Fr lt m
      exact ⟨_, List.mem_range.mpr a, b⟩
    · rintro ⟨j, hj, rfl⟩
      obtain ⟨a, b, c, _⟩ := txI_spec h Fr lt (List.mem_range.mp hj)
      exact ⟨a, c⟩
  refine List.Perm.eq_of_pairwise (le := fun a b => ¬ cd b < cd a) (fun a b _ _ h3 h4 => cd_inj (Std.le_antisymm (List.not_lt.mp h3) (List.not_lt.mp h4))) (sortedS_pair so) (pw.imp fun ab => List.lt_asymm ab) (perm_of_mem nd nd2 sm)
theorem shInt2 {a b : Int} (ha : a.natAbs < 2 ^ 200) (hb : b.natAbs < 2 ^ 200) : shOk (enc [a, b]) := ShD.listOk (ShD.list (l := [a, b]) (dp := 0) (wt := 200) fun x hx => by
  simp only [List.mem_cons, List.not_mem_nil, or_false] at hx
  rcases hx with rfl | rfl
  · exact ShD.int ha
  · exact ShD.int hb) (by decide) (by simp)
theorem shStr2 {a b : Str} (ha : isL a = true) (la : a.length ≤ 1000) (hb : isL b = true) (lb : b.length ≤ 1000) : shOk (enc [a, b]) := ShD.listOk (ShD.list (l := [a, b]) (dp := 0) (wt := 1000) fun x hx => by
  simp only [List.mem_cons, List.not_mem_nil, or_false] at hx
  rcases hx with rfl | rfl
  · exact ShD.str (sok_isL ha) la
  · exact ShD.str (sok_isL hb) lb) (by decide) (by simp)
theorem nth_tx {ws : List Str} {ls : List Nat} {L i : Nat} {n : Int} {Q : Str → Int → Prop} (h : Wl ws) (F : Free (mm ws)) (lt : Ltr ws ls) (hL : L ≤ 1000) (hi : i < NN (cds ws) L) (q : Q (txI ws ls L i) n) : m_nth_text (Stk.mk ws) (L : Int) (i : Int) n Q := nth_text_spec (s := Stk.mk ws) h F lt hL hi q
theorem cutL_len41 {α : Type} (xs : List α) (lo hi : Option Int) : (cutL xs lo hi).length ≤ xs.length := by
  unfold cutL
  rw [List.length_take, List.length_drop]
  omega
theorem lim200 {k : Nat} (h : k ≤ 1000) : ((k : Nat) : Int).natAbs < 2 ^ 200 := by
  rw [Int.natAbs_natCast]
  exact Nat.lt_of_le_of_lt h (by decide +kernel)
theorem right_true {n : Int} {Q : Bool → Int → Prop} (hn : n < 600000) (q : ∀ n', n' ≤ n + 2000 → Q true n') : m_law_right n Q := by
  unfold m_law_right
  dsimp only [bnd, ret, need, orM, andM, notM, pc, atM, m_law_draw]
  refine known_spec (by omega) fun w0 n1 lo0 a1 a7 hn1 => lot_spec (by omega) (by decide) (by decide) (by decide) (by decide) fun w1 n2 lo1 b1 b5 hn2 => ⟨⟨by omega, by omega, by omega⟩, fun d d0 d1 => ?_⟩
  obtain ⟨l, hl, lW, l1, l8⟩ : ∃ l, atI [w0, w1] d = some l ∧ (∀ x ∈ l, isW x = true) ∧ 1 ≤ l.length ∧ l.length ≤ 8 := by
    have : d = 0 ∨ d = 1 := by omega
    rcases this with rfl | rfl
    · exact ⟨w0, atI_nat (j := 0) rfl, fun x hx => by
        obtain ⟨a, b, c⟩ := lo0.l x hx
        exact isW_iff.mpr ⟨a, b, by omega⟩, a1, by omega⟩
    · exact ⟨w1, atI_nat (j := 1) rfl, fun x hx => by
        obtain ⟨a, b, c⟩ := lo1.l x hx
        exact isW_iff.mpr ⟨a, b, by omega⟩, b1, by omega⟩
  refine ⟨l, hl, eased_spec lW l1 l8 fun ws g h8 F => ⟨g, few_spec (ws := ws) (L := 12) g.wl (by decide) fun rows k hk ok => ?_⟩⟩
  have h := g.wl
  obtain ⟨ls, lt⟩ := Ltr.ex h
  refine forW_inv (fun (r : List (Int × List Str)) (_ : Unit) m => m = n2 + 1 ∧ ∀ p ∈ r, ∃ i : Nat, p.1 = (i : Int) ∧ i ≤ 12 ∧ p.2.length ≤ 700 ∧ p.2 = (List.range (NN (cds ws) i)).map (txI ws ls i)) ⟨rfl, fun p hp => ?_⟩ ?_ ?_
  · obtain ⟨i, hi⟩ := List.mem_iff_getElem?.mp hp
    obtain ⟨e1, e2⟩ := numbered_get hi
    obtain ⟨c1, c2, c3⟩ := few_eq h F lt ok e2
    exact ⟨i, e1, by omega, c2, c3⟩
  · rintro ⟨x1, x2⟩ r ⟨⟩ m Nx ⟨rfl, hr⟩ hN
    obtain ⟨i, e, i12, l7, el⟩ := hr (x1, x2) List.mem_cons_self
    dsimp only at e l7 el ⊢
    subst e
    have cnt : x2.length = NN (cds ws) i := by rw [el, List.length_map, List.length_range]
    refine count_texts_spec (s := Stk.mk ws) h F (by omega) (count_texts_spec (s := Stk.mk ws) h F (by omega) ?_)
    have e2 : (List.replicate (Int.toNat 2) [((x2.length : Nat) : Int)]).flatten = [((x2.length : Nat) : Int), ((x2.length : Nat) : Int)] := rfl
    dsimp only
    rw [← cnt, e2, decide_eq_true rfl]
    have c1 := cutL_len41 x2 none (some 6)
    have c2 := cutL_len41 x2 (some (-3)) none
    refine ⟨shInt2 (lim200 (by omega)) (lim200 (by omega)), ⟨by decide, by decide, lk (by show 1 * 2 ≤ 1000000; decide)⟩, shInt2 (lim200 (by omega)) (lim200 (by omega)), fun e => Bool.noConfusion e, fun _ => ⟨lk (by omega), ?_⟩⟩
    refine forW_inv (fun (s : List Str) (_ : Unit) m => m = n2 + 1 ∧ ∀ z ∈ s, z ∈ x2) ⟨rfl, fun z hz => ?_⟩ ?_ ?_
    · rcases List.mem_append.mp hz with hz | hz
      · exact cutL_sub41 hz
      · exact cutL_sub41 hz
    · rintro z s ⟨⟩ m Ny ⟨rfl, hs⟩ hNy
      have hz := hs z List.mem_cons_self
      rw [el] at hz
      obtain ⟨j, hj, rfl⟩ := List.mem_map.mp hz
      have hj := List.mem_range.mp hj
      obtain ⟨z1, z2, z3, z4, z5⟩ := txI_spec h F lt hj
      have atj : ∀ m, m < NN (cds ws) i → x2[m]? = some (txI ws ls i m) := fun m hm => by
        rw [el, List.getElem?_map, List.getElem?_range hm]
        rfl
      refine ⟨j, atj j hj, fun m hm e => ?_, nth_tx h F lt (by omega) hj (nth_tx h F lt (by omega) hj ?_)⟩
      · rw [atj m (by omega)] at e
        have e := Option.some.inj e
        have lt2 := z5 m hm
        rw [e] at lt2
        exact List.lt_irrefl _ lt2
      · rw [decide_eq_true rfl]
        have sh := shStr2 z2 (by omega : (txI ws ls i j).length ≤ 1000) z2 (by omega)
        refine ⟨sh, sh, fun e => Bool.noConfusion e, fun _ => text_index_spec (s := Stk.mk ws) h F lt (by omega) z3 (text_index_spec (s := Stk.mk ws) h F lt (by omega) z3 ?_)⟩
        dsimp only
        rw [z4, decide_eq_true rfl]
        have shj := shInt2 (lim200 (show j ≤ 1000 by omega)) (lim200 (show j ≤ 1000 by omega))
        exact ⟨shj, shj, fun e => Bool.noConfusion e, fun _ => hNy _ _ ⟨rfl, fun y hy => hs y (List.mem_cons_of_mem _ hy)⟩⟩
    · rintro ⟨⟩ m ⟨rfl, _⟩
      exact hN _ _ ⟨rfl, fun p hp => hr p (List.mem_cons_of_mem _ hp)⟩
  · rintro ⟨⟩ m ⟨rfl, _⟩
    have okw : okD (enc ws) = true := okA (a := ws) fun x hx => sok_isL (h.l x hx)
    refine ⟨⟨okw, okw⟩, ?_⟩
    rw [eqE, decide_eq_true rfl]
    exact q _ (by omega)
end WH
namespace WH
open PySem PySem.Spec PyProof.Rows L2
open Enc (enc)
open EncL (encl)
theorem law_fact (n : Int) (h0 : 0 ≤ n) (h1 : n ≤ 500000) : m_law_right n (fun r n' => r = true ∧ n' ≤ n + 2000) := right_true (by omega) fun n' h => ⟨rfl, h⟩
end WH
namespace WH
open PySem PySem.Spec PyProof.Rows L2
open Enc (enc)
open EncL (encl)
variable {t : Tok}
section
variable {P : Program} {w : World} {K : PySem.W.Frag} {mg : Str → Option Value} {base : Heap}
theorem scIsLetters : FnScope ["text", "sign"] ["text"] (defScope sIsLetters) := ⟨rfl, rfl, rfl, by decide +kernel, rfl, by decide +kernel, by decide +kernel⟩
def spIsLetters : Sp := fun vs H Q _ => ∃ z : Str, vs = [.str z] ∧ z.length ≤ 100000 ∧ ∀ H', Same H H' → Q (.bl (isL z)) H'
theorem ok_isLetters {f : Addr} {fd : FuncData} {k : Nat} (F : Fun K "is_letters" "is_letters" sIsLetters f fd) (mL : mg "LETTERS" = some (.str LET t)) (ma : mg "all" = none) : FnOk P w K mg base CX0 (k + 1) f fd ["text"] spIsLetters := by
  refine F.ok scIsLetters (fun vs H Q E h => ?_) (fun cdv A outer s H vs Q E hr h => ?_)
  · obtain ⟨z, rfl, _⟩ := h
    rfl
  · obtain ⟨z, rfl, hz, q⟩ := h
    refine ⟨_, pss_one (ps_ret (pe_callB (cr_all rfl) (by rfl) ma (by decide +kernel) (pa_cons
      (pe_lc (own := [("sign", 1)]) (g := gName 1) (tt := tYes) rfl scIsLetters.nd (pi_str (pv 0)) (blkOk_by (N := ["text", "sign"]) (sc := defScope sIsLetters) (by decide +kernel))
        (fun _ _ _ _ _ => pg_name (i := 1) scIsLetters.nd rfl (Or.inl rfl)) (fun _ _ _ _ _ => pts_nil)
        (fun _ _ _ _ _ => pe_cmpR op_in_sign (pv 1) (pe_glob (v := .str LET) rfl mL ⟨_, rfl⟩) rfl)) pa_nil))), ?_⟩
    refine ⟨.str z, rfl, z, rfl, fun D hD => ?_⟩
    refine lc_fm walk_str (fun i => some (.bl (decide (z.cps.getD i 0 ∈ LET.cps.toList)))) (Nat.lt_of_le_of_lt hz (by decide)) hD (fun _ _ => trivial) ?_ ?_
    · rintro i x H1 H2 N hi s1 ⟨rfl, c, hc, rfl⟩ hN
      refine ⟨rfl, ?_⟩
      refine yesT ?_
      refine ⟨_, rfl, c, LET, rfl, rfl, ?_⟩
      rw [← getD_at hi hc]
      exact hN _ (Same.refl _)
    · intro H1 s1 h1
      rw [fmr_isL] at h1
      refine ⟨D, _, rfl, SqL.of h1, ?_⟩
      rw [all_isL]
      exact q _ s1

theorem scIsWord : FnScope ["text"] ["text"] (defScope sIsWord) := ⟨rfl, rfl, rfl, by decide +kernel, rfl, by decide +kernel, by decide +kernel⟩
def spIsWord : Sp := fun vs H Q _ => ∃ z : Str, vs = [.str z] ∧ z.length ≤ 100000 ∧ ∀ H', Same H H' → Q (.bl (isW z)) H'
theorem ok_isWord {f fL : Addr} {fd fdL : FuncData} {k : Nat} {t : Tok} (F : Fun K "is_word" "is_word" sIsWord f fd) (G : FnOk P w K mg base CX0 k fL fdL ["text"] spIsLetters) (bL : Binds K fdL ["text"] []) (kL : PySem.W.keepIn K (.ref fL) = true) (gL : mg "is_letters" = some (.ref fL))
    (mM : mg "MOST_LETTERS" = some (.int 8 t)) (ml : mg "len" = none) : FnOk P w K mg base CX0 (k + 1) f fd ["text"] spIsWord := by
  refine F.ok scIsWord (fun vs H Q E h => ?_) (fun cdv A outer s H vs Q E hr h => ?_)
  · obtain ⟨z, rfl, _⟩ := h
    rfl
  · obtain ⟨z, rfl, hz, q⟩ := h
    have hs : z.length ≤ sizeLine := Nat.le_trans hz (by decide)
    refine ⟨_, pss_one (ps_ret (pe_and (pe_chain op_le op_le pe_int (pe_callB call_len_str (by rfl) ml PySem.boot_len (pa_cons (pv 0) pa_nil)) (pe_glob (v := .int 8) rfl mM ⟨_, rfl⟩))
      (pe_one (pe_call G hr (by rfl) gL kL bL .nil pass0 (pa_cons (pv 0) pa_nil))))), ?_⟩
    refine ⟨_, rfl, z, rfl, hs, _, _, rfl, rfl, _, rfl, ?_⟩
    by_cases h1 : (1 : Int) ≤ (z.length : Int)
    · rw [decide_eq_true h1]
      refine iteT ?_
      refine ⟨_, _, rfl, rfl, _, rfl, ?_⟩
      by_cases h2 : (z.length : Int) ≤ 8
      · rw [decide_eq_true h2]
        refine iteT ?_
        refine ⟨_, rfl, z, rfl, hz, fun H' s' => ?_⟩
        have e : isW z = isL z := by
          unfold isW
          rw [decide_eq_true (show 1 ≤ z.length by omega), decide_eq_true (show z.length ≤ 8 by omega)]
          rfl
        rw [← e]
        exact q _ s'
      · rw [decide_eq_false h2]
        refine iteF ?_
        have e : isW z = false := by
          unfold isW
          rw [decide_eq_false (show ¬ z.length ≤ 8 by omega)]
          simp
        rw [← e]
        exact q _ (Same.refl _)
    · rw [decide_eq_false h1]
      refine iteF ?_
      refine ⟨_, rfl, iteF ?_⟩
      have e : isW z = false := by
        unfold isW
        rw [decide_eq_false (show ¬ 1 ≤ z.length by omega)]
        simp
      rw [← e]
      exact q _ (Same.refl _)
theorem isW_len {x : Str} (h : isW x = true) : 1 ≤ x.length ∧ x.length ≤ 8 := by
  unfold isW at h
  simp only [Bool.and_eq_true, decide_eq_true_eq] at h
  exact h.1
theorem map_at {ws : List Str} {i : Nat} {y : V} (h : (ws.map V.str)[i]? = some y) : ∃ x, ws[i]? = some x ∧ y = .str x := by
  rw [List.getElem?_map] at h
  cases e : ws[i]? with
  | none =>
    rw [e] at h
    cases h
  | some x =>
    rw [e] at h
    exact ⟨x, rfl, (Option.some.inj h).symm⟩
theorem take_snoc {α : Type} {l : List α} {i : Nat} {x : α} (h : l[i]? = some x) : l.take (i + 1) = l.take i ++ [x] := by
  rw [List.take_add_one, h]
  rfl
theorem nd_notin {ws : List Str} {i : Nat} {x : Str} (nd : ws.Nodup) (h : ws[i]? = some x) : x ∉ ws.take i := by
  intro hm
  obtain ⟨j, hj⟩ := List.mem_iff_getElem?.mp hm
  have hji : j < i := by
    have := (List.getElem?_eq_some_iff.mp hj).1
    rw [List.length_take] at this
    omega
  rw [List.getElem?_take_of_lt hji] at hj
  obtain ⟨h1, e1⟩ := List.getElem?_eq_some_iff.mp hj
  obtain ⟨h2, e2⟩ := List.getElem?_eq_some_iff.mp h
  have e3 : ws[j] ≠ ws[i] := List.pairwise_iff_getElem.mp nd j i h1 h2 hji
  exact e3 (e1.trans e2.symm)
theorem scCheckWords : FnScope ["words", "seen", "word"] ["words"] (defScope sCheckWords) := ⟨rfl, rfl, rfl, by decide +kernel, rfl, by decide +kernel, by decide +kernel⟩
def spCheckWords (K : PySem.W.Frag) : Sp := fun vs H Q _ => ∃ (a : Addr) (ws : List Str), vs = [.ref a] ∧ SqL K H a (ws.map V.str) ∧ Good ws ∧ ∀ H', Same H H' → Q .non H'
theorem ok_checkWords {f fL : Addr} {fd fdL : FuncData} {k : Nat} {t : Tok} (F : Fun K "check_words" "check_words" sCheckWords f fd) (G : FnOk P w K mg base CX0 k fL fdL ["text"] spIsWord) (bL : Binds K fdL ["text"] []) (kL : PySem.W.keepIn K (.ref fL) = true) (gL : mg "is_word" = some (.ref fL))
    (mM : mg "MOST_WORDS" = some (.int 8 t)) (ml : mg "len" = none) (mset : mg "set" = none) : FnOk P w K mg base CX0 (k + 1) f fd ["words"] (spCheckWords K) := by
  refine F.ok scCheckWords (fun vs H Q E h => ?_) (fun cdv A outer s H vs Q E hr h => ?_)
  · obtain ⟨z, ws, rfl, _⟩ := h
    rfl
  · obtain ⟨a, ws, rfl, hS, g, q⟩ := h
    refine ⟨_, pss_cons (ps_set (i := 1) scCheckWords.nd rfl (Or.inl rfl) (pe_callTy0 cr_set0K (by rfl) mset (by decide +kernel)))
      (pss_cons (ps_for PassesOwn.never rfl (pi_list (pv 0)) (pg_name (i := 2) scCheckWords.nd rfl (Or.inl rfl))
        (pss_cons (ps_if (PW.pt (pw_or (pt_not (pt_val (pe_call G hr (by rfl) gL kL bL .nil pass0 (pa_cons (pv 2) pa_nil)))) (pw_or1 (pt_cmpR or_sinK (pv 2) (pv 1) rfl)))) (pss_one ps_never) pss_nil)
          (pss_one (ps_expr (pe_saddK (pv 1) (pa_cons (pv 2) pa_nil))))))
      (pss_one (ps_if (pt_not (pt_chain op_le op_le pe_int (pe_callB call_len_seq (by rfl) ml PySem.boot_len (pa_cons (pv 0) pa_nil)) (pe_glob (v := .int 8) rfl mM ⟨_, rfl⟩))) (pss_one ps_never) pss_nil))), ?_⟩
    refine ⟨rfl, fun p np => ?_⟩
    have s1 : Same H (upd H p (SetK P w p (fun _ => false) 0)) := same_upd np
    refine ⟨_, rfl, a, rfl, ⟨_, s1.seq hS⟩, for_list (K := K) (a := a) (xs := ws.map V.str) (fun i σ H2 => ∃ (v : Option V) (S : Key → Bool) (n : Nat), σ = [some (.ref a), some (.ref p), v] ∧ Same H H2 ∧ H2 p = some (SetK P w p S n) ∧ n ≤ i ∧ ∀ x, S (.inr x) = decide (x ∈ ws.take i))
      ⟨none, fun _ => false, 0, rfl, s1, upd_same, Nat.le_refl _, fun x => by simp⟩ (fun i σ H2 _ ⟨_, _, _, _, s2, _⟩ => s2.seq hS) ?_ ?_⟩
    · rintro i y σ H2 hi ⟨v, S, n, rfl, s2, hp, hn, hSx⟩
      obtain ⟨x, hx, rfl⟩ := map_at hi
      have hil : i < ws.length := (List.getElem?_eq_some_iff.mp hx).1
      have hw := g.w x (List.mem_of_getElem? hx)
      have h8 := g.hi
      refine ⟨_, rfl, x, rfl, Nat.le_trans (isW_len hw).2 (by decide), fun H3 s3 => ⟨_, rfl, ?_⟩⟩
      rw [hw]
      refine iteF ?_
      have hp3 := s3 _ _ hp
      refine ⟨_, rfl, _, rfl, Sum.inr x, p, S, n, rfl, rfl, hp3, _, rfl, ?_⟩
      have hf : S (.inr x) = false := by
        rw [hSx]
        exact decide_eq_false (nd_notin g.nd hx)
      rw [if_neg Bool.false_ne_true, hf]
      refine iteF ?_
      refine ⟨_, rfl, ⟨p, S, n, rfl, hp3⟩, _, rfl, p, Sum.inr x, S, n, rfl, rfl, hp3, Nat.lt_of_lt_of_le (show n + 1 < 100 by omega) (by decide), ?_⟩
      refine ⟨_, _, _, rfl, same_set (s2.trans s3) np, upd_same, ?_, fun y => ?_⟩
      · rw [hf]
        simp
        omega
      · rw [take_snoc hx, hSx]
        simp
    · rintro σ H2 ⟨v, S, n, rfl, s2, _⟩
      have g1 := g.lo
      have g8 := g.hi
      refine ⟨_, rfl, a, _, rfl, .inl (s2.seq hS), _, _, rfl, rfl, _, rfl, ?_⟩
      rw [decide_eq_true (show (1 : Int) ≤ ((ws.map V.str).length : Nat) by rw [List.length_map]; omega)]
      refine iteT ?_
      refine ⟨_, _, rfl, rfl, _, rfl, ?_⟩
      rw [decide_eq_true (show (((ws.map V.str).length : Nat) : Int) ≤ 8 by rw [List.length_map]; omega)]
      refine iteF ?_
      exact q _ s2

theorem StkC.ty {C fi fe fw p : Addr} {H : Hp} {ws : List Str} (T : StkC K mg C fi fe fw) (h : StkAt C H p ws) : TyX K H (.ref p) (.ref C) := by
  obtain ⟨dx, t, h1, _⟩ := h
  exact .base (.ins h1 T.cl T.ha T.hn T.htk T.hm)
theorem scSInit : FnScope ["self", "words"] ["self", "words"] (defScope sSInit) := ⟨rfl, rfl, rfl, by decide +kernel, rfl, by decide +kernel, by decide +kernel⟩
theorem ok_sinit {f fL C fi fe fw : Addr} {fd fdL : FuncData} {k : Nat} (F : Fun K "__init__" "Stock.__init__" sSInit f fd) (T : StkC K mg C fi fe fw) (G : FnOk P w K mg base CX0 k fL fdL ["words"] (spCheckWords K)) (bL : Binds K fdL ["words"] []) (kL : PySem.W.keepIn K (.ref fL) = true) (gL : mg "check_words" = some (.ref fL))
    (mt : mg "tuple" = none) : FnOk P w K mg base CX0 (k + 1) f fd ["self", "words"] (spSInit K C) := by
  refine F.ok scSInit (fun vs H Q E h => ?_) (fun cdv A outer s H vs Q E hr h => ?_)
  · obtain ⟨p, dx, a, ws, rfl, _⟩ := h
    rfl
  · obtain ⟨p, dx, a, ws, rfl, hp, hS, g, q⟩ := h
    refine ⟨_, pss_cons (ps_expr (pe_call G hr (by rfl) gL kL bL .nil pass0 (pa_cons (pv 1) pa_nil)))
      (pss_one (ps_fld (pv 0) (pe_callTy call_tuple_of (by rfl) mt (by decide +kernel) (pa_cons (pv 1) pa_nil)) rfl)), ?_⟩
    refine ⟨_, rfl, a, ws, rfl, hS, g, fun H1 s1 => ?_⟩
    refine ⟨_, rfl, a, _, rfl, .inl ⟨s1.seq hS, fun l nl => ?_⟩⟩
    have npl : p ≠ l := ne_of_none (s1 _ _ hp) nl
    refine ⟨_, rfl, p, C, dx, [], rfl, (by rw [upd_ne npl]; exact s1 _ _ hp), T.cl, T.nW, (by show 0 < 1000; decide), ?_⟩
    refine q _ l (s1.free nl) upd_same (by rw [upd_ne npl.symm, upd_same]) fun b o e hb => ?_
    rw [upd_ne hb]
    exact same_set s1 (s1.free nl) b o e
theorem scSEq : FnScope ["self", "other"] ["self", "other"] (defScope sSEq) := ⟨rfl, rfl, rfl, by decide +kernel, rfl, by decide +kernel, by decide +kernel⟩
def spSEq (C : Addr) : Sp := fun vs H Q _ => ∃ (p r : Addr) (ws zs : List Str), vs = [.ref p, .ref r] ∧ StkAt C H p ws ∧ StkAt C H r zs ∧ Good ws ∧ Good zs ∧ ∀ H', Same H H' → Q (.bl (decide (ws = zs))) H'
theorem Good.sok {ws : List Str} (g : Good ws) : SOk ws := fun x hx => sok_isW (g.w x hx)
theorem ok_seq {f C fi fe fw : Addr} {fd : FuncData} {k : Nat} (F : Fun K "__eq__" "Stock.__eq__" sSEq f fd) (T : StkC K mg C fi fe fw) (mi : mg "isinstance" = none) : FnOk P w K mg base CX0 (k + 1) f fd ["self", "other"] (spSEq C) := by
  refine F.ok scSEq (fun vs H Q E h => ?_) (fun cdv A outer s H vs Q E hr h => ?_)
  · obtain ⟨p, r, ws, zs, rfl, _⟩ := h
    rfl
  · obtain ⟨p, r, ws, zs, rfl, hp, hz, g1, g2, q⟩ := h
    have ty := T.ty hz
    obtain ⟨dx, t, h1, h2⟩ := hp
    obtain ⟨dz, u, h3, h4⟩ := hz
    refine ⟨_, pss_one (ps_ret (pe_and (pe_callB call_isi (by rfl) mi (by decide +kernel) (pa_cons (pv 1) (pa_cons (pe_glob (v := .ref C) rfl T.mgC rfl) pa_nil)))
      (pe_one (pe_cmpR (op_eqD hr.units) (pe_fld (pv 0) rfl) (pe_fld (pv 1) rfl) (nomark _))))), ?_⟩
    refine ⟨_, rfl, _, _, _, _, _, rfl, .own C, ty, T.ki, _, rfl, ?_⟩
    refine iteT ?_
    refine ⟨_, rfl, p, C, dx, _, _, rfl, h1, T.cl, T.nW, fW_get _, _, rfl, r, C, dz, _, _, rfl, h3, T.cl, T.nW, fW_get _, _, _, dp_tup (SqT.of h2), dp_tup (SqT.of h4), sh_tup g1.sok, sh_tup g2.sok, ?_⟩
    rw [eqv_tup]
    exact q _ (Same.refl _)
theorem scSWords : FnScope ["self"] ["self"] (defScope sSWords) := ⟨rfl, rfl, rfl, by decide +kernel, rfl, by decide +kernel, by decide +kernel⟩
theorem ok_swords {f C fi fe fw : Addr} {fd : FuncData} {k : Nat} (F : Fun K "words" "Stock.words" sSWords f fd) (T : StkC K mg C fi fe fw) (ml : mg "list" = none) : FnOk P w K mg base CX0 (k + 1) f fd ["self"] (spSWords C) := by
  refine F.ok scSWords (fun vs H Q E h => ?_) (fun cdv A outer s H vs Q E hr h => ?_)
  · obtain ⟨p, ws, rfl, _⟩ := h
    rfl
  · obtain ⟨p, ws, rfl, ⟨dx, t, h1, h2⟩, q⟩ := h
    refine ⟨_, pss_one (ps_ret (pe_callTy call_list_of (by rfl) ml (by decide +kernel) (pa_cons (pe_fld (pv 0) rfl) pa_nil))), ?_⟩
    refine ⟨_, rfl, p, C, dx, _, _, rfl, h1, T.cl, T.nW, fW_get _, t, _, rfl, .inr (SqT.of h2), fun l nl => ?_⟩
    exact q l _ nl (same_upd nl) upd_same
end

theorem SameBut.refl {p : Addr} {H : Hp} : SameBut p H H := fun _ _ _ h => h
theorem SameBut.trans {p : Addr} {H H1 H2 : Hp} (a : SameBut p H H1) (b : SameBut p H1 H2) : SameBut p H H2 := fun c o n h => b c o n (a c o n h)
theorem SameBut.free {p l : Addr} {H H' : Hp} (s : SameBut p H H') (n : l ≠ p) (h : H' l = none) : H l = none := by
  cases q : H l with
  | none => rfl
  | some o =>
    rw [s l o n q] at h
    cases h
theorem Same.but {p : Addr} {H H' : Hp} (s : Same H H') : SameBut p H H' := fun b o _ h => s b o h
theorem atI_int {α : Type} {xs : List α} {e : Int} (h0 : 0 ≤ e) (h : e.toNat < xs.length) : atI xs e = some xs[e.toNat] := by
  have e1 : (e.toNat : Int) = e := by omega
  have := atI_nat (List.getElem?_eq_getElem h)
  rwa [e1] at this
theorem at0 {x y z : V} : atI [x, y, z] 0 = some x := atI_nat (j := 0) rfl
theorem at1 {x y z : V} : atI [x, y, z] 1 = some y := atI_nat (j := 1) rfl
theorem at2 {x y z : V} : atI [x, y, z] 2 = some z := atI_nat (j := 2) rfl
section
variable {P : Program} {w : World} {K : PySem.W.Frag} {mg : Str → Option Value} {base : Heap}
theorem scPool : FnScope ["script", "spot", "cell"] ["script", "spot"] (defScope sPool) := ⟨rfl, rfl, rfl, by decide +kernel, rfl, by decide +kernel, by decide +kernel⟩
def spPool (K : PySem.W.Frag) : Sp := fun vs H Q _ => ∃ (a : Addr) (ns : List Int) (i : Nat), vs = [.ref a, .int i] ∧ SqL K H a (ns.map V.int) ∧ i ≤ 100 ∧ ∀ p H', H p = none → Same H H' → PoolAt H' p 0 → Q (.ref p) H'
structure Bu (mg : Str → Option Value) : Prop where
  len : mg "len" = none
  max : mg "max" = none
  min : mg "min" = none
  abs : mg "abs" = none
  int : mg "int" = none
  range : mg "range" = none
theorem pool_num {x : Int} {i : Nat} (hi : i ≤ 100) : 0 ≤ x.fmod 2305843009213693951 + 7368787 * ((i : Int) + 1) ∧ x.fmod 2305843009213693951 + 7368787 * ((i : Int) + 1) < 4611686018427387904 := by
  rw [Int.fmod_eq_emod_of_nonneg _ (by decide)]
  have h1 := Int.emod_nonneg x (show (2305843009213693951 : Int) ≠ 0 by decide)
  have h2 := Int.emod_lt_of_pos x (show (0 : Int) < 2305843009213693951 by decide)
  omega
theorem ok_pool {f : Addr} {fd : FuncData} {k : Nat} (F : Fun K "_law_pool" "_law_pool" sPool f fd) (B : Bu mg) : FnOk P w K mg base CX0 (k + 1) f fd ["script", "spot"] (spPool K) := by
  refine F.ok scPool (fun vs H Q E h => ?_) (fun cdv A outer s H vs Q E hr h => ?_)
  · obtain ⟨a, ns, i, rfl, _⟩ := h
    rfl
  · obtain ⟨a, ns, i, rfl, hS, hi, q⟩ := h
    refine ⟨_, pss_cons (ps_set (i := 2) scPool.nd rfl (Or.inl rfl) pe_int)
      (pss_cons (ps_if (pt_cmpR op_lt (pv 1) (pe_callB call_len_seq (by rfl) B.len PySem.boot_len (pa_cons (pv 0) pa_nil)) (nomark _))
        (pss_one (ps_set (i := 2) scPool.nd rfl (Or.inl rfl) (pe_ix ix_list (pv 0) (pv 1) (fun _ _ => rfl)))) pss_nil)
      (pss_one (ps_ret (pe_lst (pa_cons (pe_callB (call_max2 rfl) (by rfl) B.max (by decide +kernel) (pa_cons pe_int (pa_cons (pe_op op_sub (pe_callB call_abs (by rfl) B.abs (by decide +kernel) (pa_cons (pv 2) pa_nil)) (pe_op op_pow pe_int pe_int)) pa_nil)))
        (pa_cons (pe_op op_add (pe_op op_modN (pe_callTy call_int1 (by rfl) B.int (by decide +kernel) (pa_cons (pv 2) pa_nil)) pe_int) (pe_op op_mul pe_int (pe_op op_add (pv 1) pe_int)))
        (pa_cons pe_int pa_nil))))))), ?_⟩
    have fin : ∀ x : Int, ∀ (p : Addr), H p = none → Q (.ref p) (upd H p (.lst [.int (if (if x < 0 then -x else x) - 10 ^ (18 : Int).toNat > 0 then (if x < 0 then -x else x) - 10 ^ (18 : Int).toNat else 0), .int (x.fmod 2305843009213693951 + 7368787 * ((i : Int) + 1)), .int 0])) := by
      intro x p np
      have h := pool_num (x := x) hi
      refine q p _ np (same_upd np) ⟨_, _, _, upd_same, ?_, h.1, h.2, by omega, by omega⟩
      split <;> omega
    refine ⟨_, rfl, _, rfl, a, _, rfl, .inl hS, _, _, rfl, rfl, _, rfl, ?_⟩
    by_cases c : (i : Int) < ((ns.map V.int).length : Nat)
    · rw [decide_eq_true c]
      refine iteT ?_
      have hl : i < ns.length := by
        rw [List.length_map] at c
        omega
      refine ⟨_, rfl, _, rfl, a, _, _, .int ns[i], rfl, rfl, hS, atI_nat (by simp [hl]), ?_⟩
      refine ⟨_, rfl, _, rfl, _, _, rfl, rfl, ⟨by decide, by decide, by decide⟩, _, _, rfl, rfl, _, _, rfl, ?_⟩
      exact ⟨_, rfl, .inl ⟨_, rfl, _, _, rfl, rfl, (show (2305843009213693951 : Int) ≠ 0 by decide), _, rfl, _, _, rfl, rfl, _, _, rfl, rfl, .inl ⟨by decide, by decide⟩, _, _, rfl, rfl, (by show 3 ≤ sizeLine; decide), fun p np => fin _ p np⟩⟩
    · rw [decide_eq_false c]
      refine iteF ?_
      refine ⟨_, rfl, _, rfl, _, _, rfl, rfl, ⟨by decide, by decide, by decide⟩, _, _, rfl, rfl, _, _, rfl, ?_⟩
      exact ⟨_, rfl, .inl ⟨_, rfl, _, _, rfl, rfl, (show (2305843009213693951 : Int) ≠ 0 by decide), _, rfl, _, _, rfl, rfl, _, _, rfl, rfl, .inl ⟨by decide, by decide⟩, _, _, rfl, rfl, (by show 3 ≤ sizeLine; decide), fun p np => fin _ p np⟩⟩
theorem scDraw : FnScope ["pool", "span", "drawn", "mixed"] ["pool", "span"] (defScope sDraw) := ⟨rfl, rfl, rfl, by decide +kernel, rfl, by decide +kernel, by decide +kernel⟩
def spDraw : Sp := fun vs H Q _ => ∃ (p : Addr) (k n : Int), vs = [.ref p, .int k] ∧ PoolAt H p n ∧ n < 1000000 ∧ 0 < k ∧ k < 21827015817904833863457681603012246715478074452379864515884587103873627449560106895696963969707827128890654172547448324051715628724804051079035421417909404592607864048874622226578923008109489266041467794720428782962225818417335587552808143703377466447327078929528071553890997418125176297836982738649704147131182816329760549952182677382067300396177662137568983831207677967583314011706544357376 ∧
  ∀ (d : Int) H', 0 ≤ d → d < k → PoolAt H' p (n + 1) → SameBut p H H' → Q (.int d) H'
theorem fm_lo {x k : Int} (h : 0 < k) : 0 ≤ x.fmod k := by
  rw [Int.fmod_eq_emod_of_nonneg _ (by omega)]
  exact Int.emod_nonneg x (by omega)
theorem fm_hi {x k : Int} (h : 0 < k) : x.fmod k < k := by
  rw [Int.fmod_eq_emod_of_nonneg _ (by omega)]
  exact Int.emod_lt_of_pos x h
theorem but_upd {H : Hp} {p : Addr} {o : HO} : SameBut p H (upd H p o) := fun b x n h => by
  rw [upd_ne n]
  exact h
theorem ok_draw {f : Addr} {fd : FuncData} {k : Nat} (F : Fun K "_law_draw" "_law_draw" sDraw f fd) (B : Bu mg) : FnOk P w K mg base CX0 (k + 1) f fd ["pool", "span"] spDraw := by
  refine F.ok scDraw (fun vs H Q E h => ?_) (fun cdv A outer s H vs Q E hr h => ?_)
  · obtain ⟨p, k, n, rfl, _⟩ := h
    rfl
  · obtain ⟨p, k, n, rfl, ⟨p0, p1, p2, hp, h0, h1, h1', h2, h2'⟩, hn, hk, hk', q⟩ := h
    have L0 : SqL K H p [.int p0, .int p1, .int p2] := SqL.of hp
    refine ⟨_, pss_cons (ps_if (pt_cmpR op_gt (pe_ix ix_list (pv 0) pe_int (fun _ _ => rfl)) pe_int (nomark _))
        (pss_cons (ps_set (i := 2) scDraw.nd rfl (Or.inl rfl) (pe_op op_modN (pe_callTy call_int1 (by rfl) B.int (by decide +kernel) (pa_cons (pe_ix ix_list (pv 0) pe_int (fun _ _ => rfl)) pa_nil)) (pv 1)))
        (pss_cons (ps_asg (pe_op op_fdivW (pe_ix ix_list (pv 0) pe_int (fun _ _ => rfl)) (pv 1)) (pg_sub (pv 0) pe_int set_list))
        (pss_one (ps_ret (pv 2))))) pss_nil)
      (pss_cons (ps_asg (pe_op op_add (pe_ix ix_list (pv 0) pe_int (fun _ _ => rfl)) pe_int) (pg_sub (pv 0) pe_int set_list))
      (pss_cons (ps_set (i := 3) scDraw.nd rfl (Or.inl rfl) (pe_op op_modN (pe_callTy call_int1 (by rfl) B.int (by decide +kernel) (pa_cons (pe_op op_powW (pe_op op_add (pe_ix ix_list (pv 0) pe_int (fun _ _ => rfl)) (pe_op op_mul pe_int (pe_ix ix_list (pv 0) pe_int (fun _ _ => rfl)))) pe_int) pa_nil)) pe_int))
      (pss_cons (ps_set (i := 3) scDraw.nd rfl (Or.inl rfl) (pe_op op_modN (pe_callTy call_int1 (by rfl) B.int (by decide +kernel) (pa_cons (pe_op op_powW (pe_op op_add (pv 3) (pe_op op_mul pe_int (pe_ix ix_list (pv 0) pe_int (fun _ _ => rfl)))) pe_int) pa_nil)) pe_int))
      (pss_one (ps_ret (pe_op op_modN (pe_callTy call_int1 (by rfl) B.int (by decide +kernel) (pa_cons (pe_op op_fdivN (pv 3) pe_int) pa_nil)) (pv 1))))))), ?_⟩
    refine ⟨_, rfl, p, _, _, _, rfl, rfl, L0, at0, _, _, rfl, rfl, _, rfl, ?_⟩
    by_cases c : (0 : Int) < p0
    · rw [decide_eq_true c]
      refine iteT ?_
      refine ⟨_, rfl, p, _, _, _, rfl, rfl, L0, at0, .inl ⟨_, rfl, _, rfl, _, _, rfl, rfl, (by omega), ?_⟩⟩
      refine ⟨_, rfl, p, _, _, _, rfl, rfl, L0, at0, _, rfl, _, _, rfl, rfl, ⟨hk, ?_⟩, ?_⟩
      · exact Nat.lt_of_lt_of_le (PySem.Flt.log2_lt_of (k := 1300) (by decide) (by omega)) (by decide)
      refine ⟨_, rfl, p, _, _, 0, rfl, rfl, hp, rfl, ?_⟩
      refine ⟨_, rfl, q _ _ (fm_lo hk) (fm_hi hk) ⟨_, _, _, upd_same, ?_, h1, h1', h2, by omega⟩ but_upd⟩
      exact Int.ediv_nonneg h0 (by omega)
    · rw [decide_eq_false c]
      refine iteF ?_
      refine ⟨_, rfl, p, _, _, _, rfl, rfl, L0, at2, _, _, rfl, rfl, _, rfl, p, _, _, 2, rfl, rfl, hp, rfl, ?_⟩
      have L1 : SqL K (upd H p (.lst [.int p0, .int p1, .int (p2 + 1)])) p [.int p0, .int p1, .int (p2 + 1)] := SqL.of upd_same
      refine ⟨_, rfl, p, _, _, _, rfl, rfl, L1, at1, _, rfl, p, _, _, _, rfl, rfl, L1, at2, _, _, rfl, rfl, .inl ⟨by decide, by decide⟩, _, _, rfl, rfl, _, _, rfl, rfl, ⟨by decide, by decide, ?_⟩, ?_⟩
      · exact log2_small (n := 100) (by omega) (by omega) (by decide) (by decide)
      refine .inl ⟨_, rfl, _, _, rfl, rfl, (show (162259276829213363391578010288127 : Int) ≠ 0 by decide), ?_⟩
      have m0 : 0 ≤ ((p1 + 15485863 * (p2 + 1)) ^ (3 : Int).toNat).fmod 162259276829213363391578010288127 := fm_lo (by decide)
      have m1 : ((p1 + 15485863 * (p2 + 1)) ^ (3 : Int).toNat).fmod 162259276829213363391578010288127 < 162259276829213363391578010288127 := fm_hi (by decide)
      refine ⟨_, rfl, _, rfl, p, _, _, _, rfl, rfl, L1, at2, _, _, rfl, rfl, .inl ⟨by decide, by decide⟩, _, _, rfl, rfl, _, _, rfl, rfl, ⟨by decide, by decide, ?_⟩, ?_⟩
      · exact log2_small (n := 200) (by omega) (by omega) (by decide) (by decide)
      refine .inl ⟨_, rfl, _, _, rfl, rfl, (show (170141183460469231731687303715884105727 : Int) ≠ 0 by decide), ?_⟩
      refine ⟨_, rfl, _, _, rfl, rfl, ⟨by decide, by decide⟩, .inl ⟨_, rfl, _, rfl, _, _, rfl, rfl, (by omega), ?_⟩⟩
      exact q _ _ (fm_lo hk) (fm_hi hk) ⟨_, _, _, upd_same, h0, h1, h1', by omega, by omega⟩ but_upd
theorem draw_L {C f : Addr} {fd : FuncData} {k : Nat} (F : FnOk P w K mg base CX0 k f fd ["pool", "span"] spDraw) : FnG P w K mg base CX0 k f fd ["pool", "span"] (spL ⟨C, K, P, w⟩ (fun x : Int × Unit => m_law_draw x.1)) :=
  FnG.ofOk (F.imp fun vs H Q E h => by
    obtain ⟨p, us, x, Hs, n, Qd, rfl, r, s, hp, hn, ⟨⟨m1, m2, m3⟩, m4⟩, q⟩ := h
    obtain ⟨k, u⟩ := x
    cases r with
    | cons r1 r2 =>
      cases r2
      rw [rep_int r1]
      refine ⟨p, k, n, rfl, hp, m1, m2, m3, fun d H' d0 d1 hp' b => ?_⟩
      refine q d (n + 1) _ Hs H' (m4 d d0 d1) b (Same.refl _) (fun c o e => b c o (fun z => ?_) (s c o e)) (fun _ _ _ _ e => e) hp' (.int d)
      subst z
      rw [hn] at e
      cases e)
theorem isLet_P {C f : Addr} {fd : FuncData} {k : Nat} (F : FnOk P w K mg base CX0 k f fd ["text"] spIsLetters) : FnG P w K mg base CX0 k f fd ["text"] (spP ⟨C, K, P, w⟩ (fun x : Str × Unit => m_is_letters x.1)) :=
  FnG.ofOk (F.imp fun vs H Q E h => by
    obtain ⟨x, Hs, Qd, r, s, ⟨m1, m2⟩, q⟩ := h
    obtain ⟨z, u⟩ := x
    cases r with
    | cons r1 r2 =>
      cases r2
      rw [rep_str r1]
      exact ⟨z, rfl, m1, fun H' s' => q _ _ Hs H' m2 s' (Same.refl _) (s.trans s') (fun _ _ _ _ e => e) (.bl _)⟩)
theorem isWord_P {C f : Addr} {fd : FuncData} {k : Nat} (F : FnOk P w K mg base CX0 k f fd ["text"] spIsWord) : FnG P w K mg base CX0 k f fd ["text"] (spP ⟨C, K, P, w⟩ (fun x : Str × Unit => m_is_word x.1)) :=
  FnG.ofOk (F.imp fun vs H Q E h => by
    obtain ⟨x, Hs, Qd, r, s, ⟨m1, m2⟩, q⟩ := h
    obtain ⟨z, u⟩ := x
    cases r with
    | cons r1 r2 =>
      cases r2
      rw [rep_str r1]
      exact ⟨z, rfl, m1, fun H' s' => q _ _ Hs H' m2 s' (Same.refl _) (s.trans s') (fun _ _ _ _ e => e) (.bl _)⟩)
end

section
variable {P : Program} {w : World} {K : PySem.W.Frag} {mg : Str → Option Value} {base : Heap}
theorem scLaw : FnScope ["script", "spot", "pool", "turn"] ["script"] (defScope sLaw) := ⟨rfl, rfl, rfl, by decide +kernel, rfl, by decide +kernel, by decide +kernel⟩
def spLaw (K : PySem.W.Frag) : Sp := fun vs H Q _ => ∃ (a : Addr) (ns : List Int), vs = [.ref a] ∧ SqL K H a (ns.map V.int) ∧ ns.length ≤ 63 ∧ ∀ H', Q (.bl true) H'
theorem ok_law {C f fP fF : Addr} {fd fdP fdF : FuncData} (F : Fun K "law" "law" sLaw f fd) (B : Bu mg) (GP : FnOk P w K mg base CX0 1 fP fdP ["script", "spot"] (spPool K)) (bP : Binds K fdP ["script", "spot"] []) (kP : PySem.W.keepIn K (.ref fP) = true) (gP : mg "_law_pool" = some (.ref fP))
    (FT : CalG P w K mg base 7 "_law_right" ["pool"] (spL ⟨C, K, P, w⟩ (fun x : Unit => m_law_right)) fF fdF) : FnG P w K mg base CX0 (7 + 1) f fd ["script"] (spLaw K) := by
  refine WH.Fun.okG F scLaw (fun vs H Q E h => ?_) (fun cdv A outer s H vs Q E hr hG h => ?_)
  · obtain ⟨a, ns, rfl, _⟩ := h
    rfl
  · obtain ⟨a, ns, rfl, hS, hlen, q⟩ := h
    have hr1 : Room 1 _ := hr.mono (by decide)
    have hr2 : Room 7 _ := hr.mono (by decide)
    skip
    refine ⟨_, (pss_cons (ps_for PassesOwn.never rfl (pi_range1 (by rfl) B.range (pa_cons (pe_callB (call_max2 rfl) (by rfl) B.max (by decide +kernel) (pa_cons pe_int (pa_cons (pe_callB (call_min2 rfl) (by rfl) B.min (by decide +kernel) (pa_cons pe_int (pa_cons (pe_callB call_len_seq (by rfl) B.len PySem.boot_len (pa_cons (pv 0) pa_nil)) pa_nil))) pa_nil))) pa_nil)) (pg_name (i := 1) scLaw.nd rfl (Or.inl rfl)) (pss_cons (ps_set (i := 2) scLaw.nd rfl (Or.inl rfl) (pe_call GP hr1 (by rfl) gP kP bP .nil pass0 (pa_cons (pv 0) (pa_cons (pv 1) pa_nil))))
      (pss_one (ps_for PassesOwn.never rfl (pi_range1 (by rfl) B.range (pa_cons pe_int pa_nil)) (pg_name (i := 3) scLaw.nd rfl (Or.inl rfl)) (pss_one (ps_if (pt_not (pt_val (pe_callG FT.G hr2 hG (by rfl) FT.g FT.k FT.b pass0 (pa_cons (pv 2) pa_nil)))) (pss_one (ps_ret pe_bl)) pss_nil))))))
      (pss_one (ps_ret pe_bl))), ?_⟩
    have jb : ∀ x : Int, 0 ≤ x → x ≤ 63 → 1 ≤ (if (if x < 5 then x else 5) > 1 then (if x < 5 then x else 5) else 1) ∧ (if (if x < 5 then x else 5) > 1 then (if x < 5 then x else 5) else 1) ≤ 5 := by
      intro x h0 h1
      split <;> split at * <;> omega
    obtain ⟨j1, j6⟩ := jb ((((ns.map V.int).length : Nat) : Int)) (by omega) (by rw [List.length_map]; omega)
    refine ⟨_, rfl, a, _, rfl, .inl hS, _, _, rfl, _, _, rfl, _, rfl, by omega, by omega, ?_⟩
    refine for_range (lo := 0) (fun i σ H2 => ∃ v1 v2 v3 : Option V, σ = [some (.ref a), v1, v2, v3] ∧ Same H H2) ⟨none, none, none, rfl, Same.refl _⟩ ?_ ?_
    · rintro i σ H2 hi ⟨v1, v2, v3, rfl, s2⟩
      have hi6 : i < 5 := by omega
      refine ⟨_, rfl, _, rfl, a, ns, i, by simp, s2.seq hS, by omega, fun p H3 np s3 hp3 => ?_⟩
      refine ⟨_, rfl, by decide, by decide, ?_⟩
      have s23 : Same H H3 := s2.trans s3
      have np0 : H p = none := s2.free np
      refine for_range (lo := 0) (fun t σ H4 => ∃ v3 : Option V, σ = [some (.ref a), some (.int (0 + i)), some (.ref p), v3] ∧ Same H H4 ∧ PoolAt H4 p (2000 * t)) ⟨v3, rfl, s23, hp3.le (by simp)⟩ ?_ ?_
      · rintro t σ H4 ht ⟨v3', rfl, s4, hp4⟩
        have ht6 : t < 3 := ht
        have hm := law_fact (2000 * t) (by omega) (by omega)
        refine ⟨_, rfl, p, [], (), fun b => if b = p then none else H4 b, 2000 * t, _, rfl, .nil, fun b o e => ?_, hp4, if_pos rfl, hm, fun r n' v Hs' H5 hq b5 _ s5 _ hp5 rr => ?_⟩
        · replace e : (if b = p then none else H4 b) = some o := e
          by_cases z : b = p
          · rw [if_pos z] at e
            cases e
          · rwa [if_neg z] at e
        · obtain ⟨rfl, hn⟩ := hq
          rw [rep_bl rr]
          refine ⟨_, rfl, iteF ?_⟩
          exact ⟨_, rfl, fun b o e => b5 b o (ne_of_none e np0) (s4 b o e), hp5.le (by push_cast; omega)⟩
      · rintro σ H4 ⟨v3', rfl, s4, hp4⟩
        exact ⟨_, _, _, rfl, s4⟩
    · rintro σ H2 ⟨v1, v2, v3, rfl, s2⟩
      exact q H2
end
end WH
namespace WH
open PySem PySem.Spec PyProof.Rows L2
open Enc (enc)
open EncL (encl)
set_option maxHeartbeats 0
theorem all_mk {l : PySem.W.OpenLaw} {w : World} {K : PySem.W.Frag} {h : Heap} {mg : Str → Option Value} {fa C pW f1 f2 f3 f4 f5 f6 f7 f8 f9 f10 f11 f12 f13 f14 f15 f16 f17 f18 f19 f20 f21 f22 f23 f24 f25 f26 f27 f28 f29 f30 f31 f32 : Addr} {tL tM tN : Tok} {nmC qC : Str} {NC : Addr} {bsC : List Value} {snC : List Str} {subC : List Value} {abC : Bool} {colC : Option Bool} {ddC : Option Addr} {m0 m1 m2 m3 m5 : Option Value} {restP : List Value} (X : K.In h) (G : h.Ns mainGlobals mg) (hfa : mg "law" = some (.ref fa))
    {od1 an1 od2 an2 od3 an3 od4 an4 od5 an5 od6 an6 od7 an7 od8 an8 od9 an9 od10 an10 od11 an11 od12 an12 od13 an13 od14 an14 od15 an15 od16 an16 od17 an17 od18 an18 od19 an19 od20 an20 od21 an21 od22 an22 od23 an23 od24 an24 od25 an25 od26 an26 od27 an27 od28 an28 od29 an29 od30 an30 od31 an31 od32 an32 : Option Addr} {sl1 sl2 sl3 sl4 sl5 sl6 sl7 sl8 sl9 sl10 sl11 sl12 sl13 sl14 sl15 sl16 sl17 sl18 sl19 sl20 sl21 sl22 sl23 sl24 sl25 sl26 sl27 sl28 sl29 sl30 sl31 sl32 : Array (Option Value)} {oc1 kV1 dc1 pm1 cd1 ct1 oc2 kV2 dc2 pm2 cd2 ct2 oc3 kV3 dc3 pm3 cd3 ct3 oc4 kV4 dc4 pm4 cd4 ct4 oc5 kV5 dc5 pm5 cd5 ct5 oc6 kV6 dc6 pm6 cd6 ct6 oc7 kV7 dc7 pm7 cd7 ct7 oc8 kV8 dc8 pm8 cd8 ct8 oc9 kV9 dc9 pm9 cd9 ct9 oc10 kV10 dc10 pm10 cd10 ct10 oc11 kV11 dc11 pm11 cd11 ct11 oc12 kV12 dc12 pm12 cd12 ct12 oc13 kV13 dc13 pm13 cd13 ct13 oc14 kV14 dc14 pm14 cd14 ct14 oc15 kV15 dc15 pm15 cd15 ct15 oc16 kV16 dc16 pm16 cd16 ct16 oc17 kV17 dc17 pm17 cd17 ct17 oc18 kV18 dc18 pm18 cd18 ct18 oc19 kV19 dc19 pm19 cd19 ct19 oc20 kV20 dc20 pm20 cd20 ct20 oc21 kV21 dc21 pm21 cd21 ct21 oc22 kV22 dc22 pm22 cd22 ct22 oc23 kV23 dc23 pm23 cd23 ct23 oc24 kV24 dc24 pm24 cd24 ct24 oc25 kV25 dc25 pm25 cd25 ct25 oc26 kV26 dc26 pm26 cd26 ct26 oc27 kV27 dc27 pm27 cd27 ct27 oc28 kV28 dc28 pm28 cd28 ct28 oc29 kV29 dc29 pm29 cd29 ct29 oc30 kV30 dc30 pm30 cd30 ct30 oc31 kV31 dc31 pm31 cd31 ct31 oc32 kV32 dc32 pm32 cd32 ct32 : Value}
    (a1 : PySem.W.nsIn K mainGlobals "is_made" = some (some (.ref f1))) (l1 : K.lookup f1 = some ⟨oc1, od1, .func (PySem.W.fnOf "is_made" "is_made" (defArgs sIsMade) (defBody sIsMade) (defScope sIsMade) .none kV1 dc1 pm1 an1 cd1 ct1), sl1⟩) (c1 : PySem.W.codeIn K cd1 "is_made" = true) (k1 : PySem.W.keepIn K (.ref f1) = true)
    (a2 : PySem.W.nsIn K mainGlobals "ends_with" = some (some (.ref f2))) (l2 : K.lookup f2 = some ⟨oc2, od2, .func (PySem.W.fnOf "ends_with" "ends_with" (defArgs sEndsWith) (defBody sEndsWith) (defScope sEndsWith) .none kV2 dc2 pm2 an2 cd2 ct2), sl2⟩) (c2 : PySem.W.codeIn K cd2 "ends_with" = true) (k2 : PySem.W.keepIn K (.ref f2) = true)
    (a3 : PySem.W.nsIn K mainGlobals "is_letters" = some (some (.ref f3))) (l3 : K.lookup f3 = some ⟨oc3, od3, .func (PySem.W.fnOf "is_letters" "is_letters" (defArgs sIsLetters) (defBody sIsLetters) (defScope sIsLetters) .none kV3 dc3 pm3 an3 cd3 ct3), sl3⟩) (c3 : PySem.W.codeIn K cd3 "is_letters" = true) (k3 : PySem.W.keepIn K (.ref f3) = true)
    (a4 : PySem.W.nsIn K mainGlobals "is_word" = some (some (.ref f4))) (l4 : K.lookup f4 = some ⟨oc4, od4, .func (PySem.W.fnOf "is_word" "is_word" (defArgs sIsWord) (defBody sIsWord) (defScope sIsWord) .none kV4 dc4 pm4 an4 cd4 ct4), sl4⟩) (c4 : PySem.W.codeIn K cd4 "is_word" = true) (k4 : PySem.W.keepIn K (.ref f4) = true)
    (a5 : PySem.W.nsIn K mainGlobals "check_words" = some (some (.ref f5))) (l5 : K.lookup f5 = some ⟨oc5, od5, .func (PySem.W.fnOf "check_words" "check_words" (defArgs sCheckWords) (defBody sCheckWords) (defScope sCheckWords) .none kV5 dc5 pm5 an5 cd5 ct5), sl5⟩) (c5 : PySem.W.codeIn K cd5 "check_words" = true) (k5 : PySem.W.keepIn K (.ref f5) = true)
    (a6 : PySem.W.nsIn K mainGlobals "rest_between" = some (some (.ref f6))) (l6 : K.lookup f6 = some ⟨oc6, od6, .func (PySem.W.fnOf "rest_between" "rest_between" (defArgs sRestBetween) (defBody sRestBetween) (defScope sRestBetween) .none kV6 dc6 pm6 an6 cd6 ct6), sl6⟩) (c6 : PySem.W.codeIn K cd6 "rest_between" = true) (k6 : PySem.W.keepIn K (.ref f6) = true)
    (a7 : PySem.W.nsIn K mainGlobals "beginning_pairs" = some (some (.ref f7))) (l7 : K.lookup f7 = some ⟨oc7, od7, .func (PySem.W.fnOf "beginning_pairs" "beginning_pairs" (defArgs sBeginningPairs) (defBody sBeginningPairs) (defScope sBeginningPairs) .none kV7 dc7 pm7 an7 cd7 ct7), sl7⟩) (c7 : PySem.W.codeIn K cd7 "beginning_pairs" = true) (k7 : PySem.W.keepIn K (.ref f7) = true)
    (a8 : PySem.W.nsIn K mainGlobals "check_one_way" = some (some (.ref f8))) (l8 : K.lookup f8 = some ⟨oc8, od8, .func (PySem.W.fnOf "check_one_way" "check_one_way" (defArgs sCheckOneWay) (defBody sCheckOneWay) (defScope sCheckOneWay) .none kV8 dc8 pm8 an8 cd8 ct8), sl8⟩) (c8 : PySem.W.codeIn K cd8 "check_one_way" = true) (k8 : PySem.W.keepIn K (.ref f8) = true)
    (a9 : PySem.W.nsIn K mainGlobals "least_text" = some (some (.ref f9))) (l9 : K.lookup f9 = some ⟨oc9, od9, .func (PySem.W.fnOf "least_text" "least_text" (defArgs sLeastText) (defBody sLeastText) (defScope sLeastText) .none kV9 dc9 pm9 an9 cd9 ct9), sl9⟩) (c9 : PySem.W.codeIn K cd9 "least_text" = true) (k9 : PySem.W.keepIn K (.ref f9) = true)
    (a10 : PySem.W.nsIn K mainGlobals "texts_behind" = some (some (.ref f10))) (l10 : K.lookup f10 = some ⟨oc10, od10, .func (PySem.W.fnOf "texts_behind" "texts_behind" (defArgs sTextsBehind) (defBody sTextsBehind) (defScope sTextsBehind) .none kV10 dc10 pm10 an10 cd10 ct10), sl10⟩) (c10 : PySem.W.codeIn K cd10 "texts_behind" = true) (k10 : PySem.W.keepIn K (.ref f10) = true)
    (a11 : PySem.W.nsIn K mainGlobals "counts_to" = some (some (.ref f11))) (l11 : K.lookup f11 = some ⟨oc11, od11, .func (PySem.W.fnOf "counts_to" "counts_to" (defArgs sCountsTo) (defBody sCountsTo) (defScope sCountsTo) .none kV11 dc11 pm11 an11 cd11 ct11), sl11⟩) (c11 : PySem.W.codeIn K cd11 "counts_to" = true) (k11 : PySem.W.keepIn K (.ref f11) = true)
    (a12 : PySem.W.nsIn K mainGlobals "count_texts" = some (some (.ref f12))) (l12 : K.lookup f12 = some ⟨oc12, od12, .func (PySem.W.fnOf "count_texts" "count_texts" (defArgs sCountTexts) (defBody sCountTexts) (defScope sCountTexts) .none kV12 dc12 pm12 an12 cd12 ct12), sl12⟩) (c12 : PySem.W.codeIn K cd12 "count_texts" = true) (k12 : PySem.W.keepIn K (.ref f12) = true)
    (a13 : PySem.W.nsIn K mainGlobals "check_length" = some (some (.ref f13))) (l13 : K.lookup f13 = some ⟨oc13, od13, .func (PySem.W.fnOf "check_length" "check_length" (defArgs sCheckLength) (defBody sCheckLength) (defScope sCheckLength) .none kV13 dc13 pm13 an13 cd13 ct13), sl13⟩) (c13 : PySem.W.codeIn K cd13 "check_length" = true) (k13 : PySem.W.keepIn K (.ref f13) = true)
    (a14 : PySem.W.nsIn K mainGlobals "letters_in" = some (some (.ref f14))) (l14 : K.lookup f14 = some ⟨oc14, od14, .func (PySem.W.fnOf "letters_in" "letters_in" (defArgs sLettersIn) (defBody sLettersIn) (defScope sLettersIn) .none kV14 dc14 pm14 an14 cd14 ct14), sl14⟩) (c14 : PySem.W.codeIn K cd14 "letters_in" = true) (k14 : PySem.W.keepIn K (.ref f14) = true)
    (a15 : PySem.W.nsIn K mainGlobals "ends_behind" = some (some (.ref f15))) (l15 : K.lookup f15 = some ⟨oc15, od15, .func (PySem.W.fnOf "ends_behind" "ends_behind" (defArgs sEndsBehind) (defBody sEndsBehind) (defScope sEndsBehind) .none kV15 dc15 pm15 an15 cd15 ct15), sl15⟩) (c15 : PySem.W.codeIn K cd15 "ends_behind" = true) (k15 : PySem.W.keepIn K (.ref f15) = true)
    (a16 : PySem.W.nsIn K mainGlobals "count_completed" = some (some (.ref f16))) (l16 : K.lookup f16 = some ⟨oc16, od16, .func (PySem.W.fnOf "count_completed" "count_completed" (defArgs sCountCompleted) (defBody sCountCompleted) (defScope sCountCompleted) .none kV16 dc16 pm16 an16 cd16 ct16), sl16⟩) (c16 : PySem.W.codeIn K cd16 "count_completed" = true) (k16 : PySem.W.keepIn K (.ref f16) = true)
    (a17 : PySem.W.nsIn K mainGlobals "nth_text" = some (some (.ref f17))) (l17 : K.lookup f17 = some ⟨oc17, od17, .func (PySem.W.fnOf "nth_text" "nth_text" (defArgs sNthText) (defBody sNthText) (defScope sNthText) .none kV17 dc17 pm17 an17 cd17 ct17), sl17⟩) (c17 : PySem.W.codeIn K cd17 "nth_text" = true) (k17 : PySem.W.keepIn K (.ref f17) = true)
    (a18 : PySem.W.nsIn K mainGlobals "letter_at_index" = some (some (.ref f18))) (l18 : K.lookup f18 = some ⟨oc18, od18, .func (PySem.W.fnOf "letter_at_index" "letter_at_index" (defArgs sLetterAtIndex) (defBody sLetterAtIndex) (defScope sLetterAtIndex) .none kV18 dc18 pm18 an18 cd18 ct18), sl18⟩) (c18 : PySem.W.codeIn K cd18 "letter_at_index" = true) (k18 : PySem.W.keepIn K (.ref f18) = true)
    (a19 : PySem.W.nsIn K mainGlobals "text_index" = some (some (.ref f19))) (l19 : K.lookup f19 = some ⟨oc19, od19, .func (PySem.W.fnOf "text_index" "text_index" (defArgs sTextIndex) (defBody sTextIndex) (defScope sTextIndex) .none kV19 dc19 pm19 an19 cd19 ct19), sl19⟩) (c19 : PySem.W.codeIn K cd19 "text_index" = true) (k19 : PySem.W.keepIn K (.ref f19) = true)
    (a20 : PySem.W.nsIn K mainGlobals "_law_pool" = some (some (.ref f20))) (l20 : K.lookup f20 = some ⟨oc20, od20, .func (PySem.W.fnOf "_law_pool" "_law_pool" (defArgs sPool) (defBody sPool) (defScope sPool) .none kV20 dc20 pm20 an20 cd20 ct20), sl20⟩) (c20 : PySem.W.codeIn K cd20 "_law_pool" = true) (k20 : PySem.W.keepIn K (.ref f20) = true)
    (a21 : PySem.W.nsIn K mainGlobals "_law_draw" = some (some (.ref f21))) (l21 : K.lookup f21 = some ⟨oc21, od21, .func (PySem.W.fnOf "_law_draw" "_law_draw" (defArgs sDraw) (defBody sDraw) (defScope sDraw) .none kV21 dc21 pm21 an21 cd21 ct21), sl21⟩) (c21 : PySem.W.codeIn K cd21 "_law_draw" = true) (k21 : PySem.W.keepIn K (.ref f21) = true)
    (a22 : PySem.W.nsIn K mainGlobals "_law_word" = some (some (.ref f22))) (l22 : K.lookup f22 = some ⟨oc22, od22, .func (PySem.W.fnOf "_law_word" "_law_word" (defArgs sWord) (defBody sWord) (defScope sWord) .none kV22 dc22 pm22 an22 cd22 ct22), sl22⟩) (c22 : PySem.W.codeIn K cd22 "_law_word" = true) (k22 : PySem.W.keepIn K (.ref f22) = true)
    (a23 : PySem.W.nsIn K mainGlobals "_law_lot" = some (some (.ref f23))) (l23 : K.lookup f23 = some ⟨oc23, od23, .func (PySem.W.fnOf "_law_lot" "_law_lot" (defArgs sLot) (defBody sLot) (defScope sLot) .none kV23 dc23 pm23 an23 cd23 ct23), sl23⟩) (c23 : PySem.W.codeIn K cd23 "_law_lot" = true) (k23 : PySem.W.keepIn K (.ref f23) = true)
    (a24 : PySem.W.nsIn K mainGlobals "_law_known" = some (some (.ref f24))) (l24 : K.lookup f24 = some ⟨oc24, od24, .func (PySem.W.fnOf "_law_known" "_law_known" (defArgs sKnown) (defBody sKnown) (defScope sKnown) .none kV24 dc24 pm24 an24 cd24 ct24), sl24⟩) (c24 : PySem.W.codeIn K cd24 "_law_known" = true) (k24 : PySem.W.keepIn K (.ref f24) = true)
    (a25 : PySem.W.nsIn K mainGlobals "_law_rests" = some (some (.ref f25))) (l25 : K.lookup f25 = some ⟨oc25, od25, .func (PySem.W.fnOf "_law_rests" "_law_rests" (defArgs slRests) (defBody slRests) (defScope slRests) .none kV25 dc25 pm25 an25 cd25 ct25), sl25⟩) (c25 : PySem.W.codeIn K cd25 "_law_rests" = true) (k25 : PySem.W.keepIn K (.ref f25) = true)
    (a26 : PySem.W.nsIn K mainGlobals "_law_eased" = some (some (.ref f26))) (l26 : K.lookup f26 = some ⟨oc26, od26, .func (PySem.W.fnOf "_law_eased" "_law_eased" (defArgs slEased) (defBody slEased) (defScope slEased) .none kV26 dc26 pm26 an26 cd26 ct26), sl26⟩) (c26 : PySem.W.codeIn K cd26 "_law_eased" = true) (k26 : PySem.W.keepIn K (.ref f26) = true)
    (a27 : PySem.W.nsIn K mainGlobals "_law_few" = some (some (.ref f27))) (l27 : K.lookup f27 = some ⟨oc27, od27, .func (PySem.W.fnOf "_law_few" "_law_few" (defArgs slFew) (defBody slFew) (defScope slFew) .none kV27 dc27 pm27 an27 cd27 ct27), sl27⟩) (c27 : PySem.W.codeIn K cd27 "_law_few" = true) (k27 : PySem.W.keepIn K (.ref f27) = true)
    (a28 : PySem.W.nsIn K mainGlobals "_law_right" = some (some (.ref f28))) (l28 : K.lookup f28 = some ⟨oc28, od28, .func (PySem.W.fnOf "_law_right" "_law_right" (defArgs slRight) (defBody slRight) (defScope slRight) .none kV28 dc28 pm28 an28 cd28 ct28), sl28⟩) (c28 : PySem.W.codeIn K cd28 "_law_right" = true) (k28 : PySem.W.keepIn K (.ref f28) = true)
    (a29 : PySem.W.nsIn K mainGlobals "law" = some (some (.ref f29))) (l29 : K.lookup f29 = some ⟨oc29, od29, .func (PySem.W.fnOf "law" "law" (defArgs sLaw) (defBody sLaw) (defScope sLaw) .none kV29 dc29 pm29 an29 cd29 ct29), sl29⟩) (c29 : PySem.W.codeIn K cd29 "law" = true) (k29 : PySem.W.keepIn K (.ref f29) = true)
    (a30 : PySem.W.findIn K (.ref C) "__init__" = some (some (.ref f30))) (i30 : PySem.W.isFn K (.ref f30) = true) (l30 : K.lookup f30 = some ⟨oc30, od30, .func (PySem.W.fnOf "__init__" "Stock.__init__" (defArgs sSInit) (defBody sSInit) (defScope sSInit) .none kV30 dc30 pm30 an30 cd30 ct30), sl30⟩) (c30 : PySem.W.codeIn K cd30 "Stock.__init__" = true) (k30 : PySem.W.keepIn K (.ref f30) = true)
    (a31 : PySem.W.findIn K (.ref C) "__eq__" = some (some (.ref f31))) (i31 : PySem.W.isFn K (.ref f31) = true) (l31 : K.lookup f31 = some ⟨oc31, od31, .func (PySem.W.fnOf "__eq__" "Stock.__eq__" (defArgs sSEq) (defBody sSEq) (defScope sSEq) .none kV31 dc31 pm31 an31 cd31 ct31), sl31⟩) (c31 : PySem.W.codeIn K cd31 "Stock.__eq__" = true) (k31 : PySem.W.keepIn K (.ref f31) = true)
    (l32 : K.lookup f32 = some ⟨oc32, od32, .func (PySem.W.fnOf "words" "Stock.words" (defArgs sSWords) (defBody sSWords) (defScope sSWords) .none kV32 dc32 pm32 an32 cd32 ct32), sl32⟩) (c32 : PySem.W.codeIn K cd32 "Stock.words" = true) (k32 : PySem.W.keepIn K (.ref f32) = true)
    (vL : PySem.W.nsIn K mainGlobals "LETTERS" = some (some (.str LET tL)))
    (vM : PySem.W.nsIn K mainGlobals "MOST_LETTERS" = some (some (.int 8 tM)))
    (vN : PySem.W.nsIn K mainGlobals "MOST_WORDS" = some (some (.int 8 tN)))
    (vH0 : PySem.W.nsIn K mainGlobals "heapify" = some (some (.builtin "_heapq.heapify")))
    (vH1 : PySem.W.nsIn K mainGlobals "heappop" = some (some (.builtin "_heapq.heappop")))
    (vH2 : PySem.W.nsIn K mainGlobals "heappush" = some (some (.builtin "_heapq.heappush")))
    (z_len : PySem.W.nsIn K mainGlobals "len" = some none)
    (z_max : PySem.W.nsIn K mainGlobals "max" = some none)
    (z_min : PySem.W.nsIn K mainGlobals "min" = some none)
    (z_abs : PySem.W.nsIn K mainGlobals "abs" = some none)
    (z_int : PySem.W.nsIn K mainGlobals "int" = some none)
    (z_range : PySem.W.nsIn K mainGlobals "range" = some none)
    (z_all : PySem.W.nsIn K mainGlobals "all" = some none)
    (z_any : PySem.W.nsIn K mainGlobals "any" = some none)
    (z_sum : PySem.W.nsIn K mainGlobals "sum" = some none)
    (z_list : PySem.W.nsIn K mainGlobals "list" = some none)
    (z_tuple : PySem.W.nsIn K mainGlobals "tuple" = some none)
    (z_set : PySem.W.nsIn K mainGlobals "set" = some none)
    (z_sorted : PySem.W.nsIn K mainGlobals "sorted" = some none)
    (z_enumerate : PySem.W.nsIn K mainGlobals "enumerate" = some none)
    (z_zip : PySem.W.nsIn K mainGlobals "zip" = some none)
    (z_reversed : PySem.W.nsIn K mainGlobals "reversed" = some none)
    (z_repr : PySem.W.nsIn K mainGlobals "repr" = some none)
    (z_isinstance : PySem.W.nsIn K mainGlobals "isinstance" = some none)
    (aC : PySem.W.nsIn K mainGlobals "Stock" = some (some (.ref C)))
    (pg : PySem.W.plainGet K C Str.empty = true)
    (hd : PySem.W.hasDictIn K C = true)
    (po : PySem.W.plainOver K C = true)
    (sa : PySem.W.findIn K (.ref C) "__setattr__" = some (some (.builtin "object.__setattr__")))
    (mk : PySem.W.makesIn K C = true)
    (kc : PySem.W.keepIn K (.ref C) = true)
    (nW : PySem.W.findIn K (.ref C) "_words" = some none)
    (xC : K.lookup C = some (excClassObj nmC qC C NC bsC [.type "object"] true snC subC abC colC ddC m0 m1 m2 m3 m5 "object.__new__"))
    (ne : PySem.W.findIn K (.ref C) "__ne__" = some (some (.builtin "object.__ne__")))
    (pa : PySem.W.findIn K (.ref C) "words" = some (some (.ref pW)))
    (pget : PySem.W.specialIn K (.ref pW) "__get__" = some (some (.builtin "property.__get__")))
    (ptk : PySem.W.takesIn K (.ref pW) = some true)
    (prc : PySem.W.recIn K pW "property" = some (.ref f32 :: restP))
    (ha : PySem.W.findIn K (.ref C) "__class__" = some (some (.builtin "object.__class__")))
    (hn : PySem.W.specialIn K (.builtin "object.__class__") "__get__" = some (some (.builtin "getset_descriptor.__get__")))
    (htk : PySem.W.takesIn K (.builtin "object.__class__") = some true)
    (hm : PySem.W.mroIn K C (.type "object") = some true)
    (ki : PySem.W.kitOne K (.ref C) (.ref C) = some true) :
    ∃ fd : FuncData, (∀ (s : Shared) (v : Value), BindsTo s fd ⟨[v], []⟩ [("script", v)]) ∧ ∀ base : Heap, K.In base → base.Ns mainGlobals mg → FnG l.prog w K mg base CX0 8 fa fd ["script"] (spLaw K) := by
  have e := hfa.symm.trans (PySem.W.mg_of X G a29)
  cases e
  have F1 := fun_mk (st := sIsMade) l1 c1 k1
  have F2 := fun_mk (st := sEndsWith) l2 c2 k2
  have F3 := fun_mk (st := sIsLetters) l3 c3 k3
  have F4 := fun_mk (st := sIsWord) l4 c4 k4
  have F5 := fun_mk (st := sCheckWords) l5 c5 k5
  have F6 := fun_mk (st := sRestBetween) l6 c6 k6
  have F7 := fun_mk (st := sBeginningPairs) l7 c7 k7
  have F8 := fun_mk (st := sCheckOneWay) l8 c8 k8
  have F9 := fun_mk (st := sLeastText) l9 c9 k9
  have F10 := fun_mk (st := sTextsBehind) l10 c10 k10
  have F11 := fun_mk (st := sCountsTo) l11 c11 k11
  have F12 := fun_mk (st := sCountTexts) l12 c12 k12
  have F13 := fun_mk (st := sCheckLength) l13 c13 k13
  have F14 := fun_mk (st := sLettersIn) l14 c14 k14
  have F15 := fun_mk (st := sEndsBehind) l15 c15 k15
  have F16 := fun_mk (st := sCountCompleted) l16 c16 k16
  have F17 := fun_mk (st := sNthText) l17 c17 k17
  have F18 := fun_mk (st := sLetterAtIndex) l18 c18 k18
  have F19 := fun_mk (st := sTextIndex) l19 c19 k19
  have F20 := fun_mk (st := sPool) l20 c20 k20
  have F21 := fun_mk (st := sDraw) l21 c21 k21
  have F22 := fun_mk (st := sWord) l22 c22 k22
  have F23 := fun_mk (st := sLot) l23 c23 k23
  have F24 := fun_mk (st := sKnown) l24 c24 k24
  have F25 := fun_mk (st := slRests) l25 c25 k25
  have F26 := fun_mk (st := slEased) l26 c26 k26
  have F27 := fun_mk (st := slFew) l27 c27 k27
  have F28 := fun_mk (st := slRight) l28 c28 k28
  have F29 := fun_mk (st := sLaw) l29 c29 k29
  have F30 := fun_mk (st := sSInit) l30 c30 k30
  have F31 := fun_mk (st := sSEq) l31 c31 k31
  have F32 := fun_mk (st := sSWords) l32 c32 k32
  have b1 := F1.binds (ps := ["words", "text"]) fun _ _ _ _ _ _ us hl => match us, hl with | [_, _], _ => rfl
  have b2 := F2.binds (ps := ["word", "text", "end", "made"]) fun _ _ _ _ _ _ us hl => match us, hl with | [_, _, _, _], _ => rfl
  have b3 := F3.binds (ps := ["text"]) fun _ _ _ _ _ _ us hl => match us, hl with | [_], _ => rfl
  have b4 := F4.binds (ps := ["text"]) fun _ _ _ _ _ _ us hl => match us, hl with | [_], _ => rfl
  have b5 := F5.binds (ps := ["words"]) fun _ _ _ _ _ _ us hl => match us, hl with | [_], _ => rfl
  have b6 := F6.binds (ps := ["one", "other"]) fun _ _ _ _ _ _ us hl => match us, hl with | [_, _], _ => rfl
  have b7 := F7.binds (ps := ["words"]) fun _ _ _ _ _ _ us hl => match us, hl with | [_], _ => rfl
  have b8 := F8.binds (ps := ["stock"]) fun _ _ _ _ _ _ us hl => match us, hl with | [_], _ => rfl
  have b9 := F9.binds (ps := ["words"]) fun _ _ _ _ _ _ us hl => match us, hl with | [_], _ => rfl
  have b10 := F10.binds (ps := ["words", "text", "rest"]) fun _ _ _ _ _ _ us hl => match us, hl with | [_, _, _], _ => rfl
  have b11 := F11.binds (ps := ["words", "length"]) fun _ _ _ _ _ _ us hl => match us, hl with | [_, _], _ => rfl
  have b12 := F12.binds (ps := ["stock", "length"]) fun _ _ _ _ _ _ us hl => match us, hl with | [_, _], _ => rfl
  have b13 := F13.binds (ps := ["length"]) fun _ _ _ _ _ _ us hl => match us, hl with | [_], _ => rfl
  have b14 := F14.binds (ps := ["words"]) fun _ _ _ _ _ _ us hl => match us, hl with | [_], _ => rfl
  have b15 := F15.binds (ps := ["words", "ends", "sign"]) fun _ _ _ _ _ _ us hl => match us, hl with | [_, _, _], _ => rfl
  have b16 := F16.binds (ps := ["many", "ends", "length"]) fun _ _ _ _ _ _ us hl => match us, hl with | [_, _, _], _ => rfl
  have b17 := F17.binds (ps := ["stock", "length", "index"]) fun _ _ _ _ _ _ us hl => match us, hl with | [_, _, _], _ => rfl
  have b18 := F18.binds (ps := ["words", "many", "ends", "behind", "index"]) fun _ _ _ _ _ _ us hl => match us, hl with | [_, _, _, _, _], _ => rfl
  have b19 := F19.binds (ps := ["stock", "text"]) fun _ _ _ _ _ _ us hl => match us, hl with | [_, _], _ => rfl
  have b20 := F20.binds (ps := ["script", "spot"]) fun _ _ _ _ _ _ us hl => match us, hl with | [_, _], _ => rfl
  have b21 := F21.binds (ps := ["pool", "span"]) fun _ _ _ _ _ _ us hl => match us, hl with | [_, _], _ => rfl
  have b22 := F22.binds (ps := ["pool", "widest", "signs"]) fun _ _ _ _ _ _ us hl => match us, hl with | [_, _, _], _ => rfl
  have b23 := F23.binds (ps := ["pool", "many", "widest"]) fun _ _ _ _ _ _ us hl => match us, hl with | [_, _, _], _ => rfl
  have b24 := F24.binds (ps := ["pool"]) fun _ _ _ _ _ _ us hl => match us, hl with | [_], _ => rfl
  have b25 := F25.binds (ps := ["lot"]) fun _ _ _ _ _ _ us hl => match us, hl with | [_], _ => rfl
  have b26 := F26.binds (ps := ["lot"]) fun _ _ _ _ _ _ us hl => match us, hl with | [_], _ => rfl
  have b27 := F27.binds (ps := ["lot", "size"]) fun _ _ _ _ _ _ us hl => match us, hl with | [_, _], _ => rfl
  have b28 := F28.binds (ps := ["pool"]) fun _ _ _ _ _ _ us hl => match us, hl with | [_], _ => rfl
  have b29 := F29.binds (ps := ["script"]) fun _ _ _ _ _ _ us hl => match us, hl with | [_], _ => rfl
  have b30 := F30.binds (ps := ["self", "words"]) fun _ _ _ _ _ _ us hl => match us, hl with | [_, _], _ => rfl
  have b31 := F31.binds (ps := ["self", "other"]) fun _ _ _ _ _ _ us hl => match us, hl with | [_, _], _ => rfl
  have b32 := F32.binds (ps := ["self"]) fun _ _ _ _ _ _ us hl => match us, hl with | [_], _ => rfl
  have B : Bu mg := ⟨PySem.W.mg_none_of X G z_len, PySem.W.mg_none_of X G z_max, PySem.W.mg_none_of X G z_min, PySem.W.mg_none_of X G z_abs, PySem.W.mg_none_of X G z_int, PySem.W.mg_none_of X G z_range⟩
  have BA : BuA mg := ⟨PySem.W.mg_none_of X G z_len, PySem.W.mg_none_of X G z_max, PySem.W.mg_none_of X G z_min, PySem.W.mg_none_of X G z_abs, PySem.W.mg_none_of X G z_int, PySem.W.mg_none_of X G z_range, PySem.W.mg_none_of X G z_all, PySem.W.mg_none_of X G z_any, PySem.W.mg_none_of X G z_sum, PySem.W.mg_none_of X G z_list, PySem.W.mg_none_of X G z_tuple, PySem.W.mg_none_of X G z_set, PySem.W.mg_none_of X G z_sorted, PySem.W.mg_none_of X G z_enumerate, PySem.W.mg_none_of X G z_zip, PySem.W.mg_none_of X G z_reversed, PySem.W.mg_none_of X G z_repr, PySem.W.mg_none_of X G z_isinstance⟩
  have BH : BuH mg := ⟨PySem.W.mg_of X G vH0, PySem.W.mg_of X G vH1, PySem.W.mg_of X G vH2⟩
  have T : StkC K mg C f30 f31 f32 := ⟨⟨pg, hd, po, sa⟩, nW, PySem.W.mg_of X G aC, ⟨mk, a30, i30, kc⟩, ⟨⟨_, _, _, _, _, _, _, _, _, _, _, _, _, _, xC⟩, a31, ne, i31⟩, ⟨pW, pa, pget, ptk, ⟨_, prc⟩⟩, ha, hn, htk, hm, ki⟩
  have hpp : PropOf K C "words" pW f32 := ⟨pa, pget, ptk, ⟨_, prc⟩⟩
  refine ⟨PySem.W.fnOf "law" "law" (defArgs sLaw) (defBody sLaw) (defScope sLaw) .none kV29 dc29 pm29 an29 cd29 ct29, fun s v => .of_eq rfl, fun base _ _ => ?_⟩
  have G3 : FnOk l.prog w K mg base CX0 1 f3 _ ["text"] spIsLetters := ok_isLetters F3 (PySem.W.mg_of X G vL) (PySem.W.mg_none_of X G z_all)
  have G4 : FnOk l.prog w K mg base CX0 2 f4 _ ["text"] spIsWord := ok_isWord F4 G3 b3 k3 (PySem.W.mg_of X G a3) (PySem.W.mg_of X G vM) B.len
  have G5 : FnOk l.prog w K mg base CX0 3 f5 _ ["words"] (spCheckWords K) := ok_checkWords F5 G4 b4 k4 (PySem.W.mg_of X G a4) (PySem.W.mg_of X G vN) B.len (PySem.W.mg_none_of X G z_set)
  have G30 : FnOk l.prog w K mg base CX0 4 f30 _ ["self", "words"] (spSInit K C) := ok_sinit F30 T G5 b5 k5 (PySem.W.mg_of X G a5) (PySem.W.mg_none_of X G z_tuple)
  have G32 : FnOk l.prog w K mg base CX0 1 f32 _ ["self"] (spSWords C) := ok_swords F32 T (PySem.W.mg_none_of X G z_list)
  have G20 : FnOk l.prog w K mg base CX0 1 f20 _ ["script", "spot"] (spPool K) := ok_pool F20 B
  have G21d : FnOk l.prog w K mg base CX0 1 f21 _ ["pool", "span"] spDraw := ok_draw F21 B
  have X_law_draw : CalG l.prog w K mg base 1 "_law_draw" ["pool", "span"] (spL ⟨C, K, l.prog, w⟩ (fun x : Int × Unit => m_law_draw x.1)) f21 _ := ⟨draw_L G21d, b21, k21, PySem.W.mg_of X G a21⟩
  have X_ends_with : CalG l.prog w K mg base 1 "ends_with" ["word", "text", "end", "made"] (spP ⟨C, K, l.prog, w⟩ (fun x : Str × Str × Int × (List Bool) × Unit => m_ends_with x.1 x.2.1 x.2.2.1 x.2.2.2.1)) f2 _ := ⟨okEndsWith F2 BA, b2, k2, PySem.W.mg_of X G a2⟩
  have X_is_made : CalG l.prog w K mg base 2 "is_made" ["words", "text"] (spP ⟨C, K, l.prog, w⟩ (fun x : (List Str) × Str × Unit => m_is_made x.1 x.2.1)) f1 _ := ⟨okIsMade F1 BA X_ends_with, b1, k1, PySem.W.mg_of X G a1⟩
  have X_rest_between : CalG l.prog w K mg base 1 "rest_between" ["one", "other"] (spP ⟨C, K, l.prog, w⟩ (fun x : Str × Str × Unit => m_rest_between x.1 x.2.1)) f6 _ := ⟨okRestBetween F6 BA, b6, k6, PySem.W.mg_of X G a6⟩
  have X_beginning_pairs : CalG l.prog w K mg base 1 "beginning_pairs" ["words"] (spPN ⟨C, K, l.prog, w⟩ (fun x : (List Str) × Unit => m_beginning_pairs x.1)) f7 _ := ⟨okBeginningPairs F7 BA, b7, k7, PySem.W.mg_of X G a7⟩
  have X_texts_behind : CalG l.prog w K mg base 1 "texts_behind" ["words", "text", "rest"] (spPN ⟨C, K, l.prog, w⟩ (fun x : (List Str) × Str × Str × Unit => m_texts_behind x.1 x.2.1 x.2.2.1)) f10 _ := ⟨okTextsBehind F10 BA, b10, k10, PySem.W.mg_of X G a10⟩
  have X_least_text : CalG l.prog w K mg base 2 "least_text" ["words"] (spP ⟨C, K, l.prog, w⟩ (fun x : (List Str) × Unit => m_least_text x.1)) f9 _ := ⟨okLeastText F9 BA BH X_beginning_pairs X_rest_between X_texts_behind, b9, k9, PySem.W.mg_of X G a9⟩
  have X_check_one_way : CalG l.prog w K mg base 3 "check_one_way" ["stock"] (spP ⟨C, K, l.prog, w⟩ (fun x : Stk × Unit => m_check_one_way x.1)) f8 _ := ⟨okCheckOneWay F8 BA T hpp G32 b32 X_least_text, b8, k8, PySem.W.mg_of X G a8⟩
  have X_counts_to : CalG l.prog w K mg base 1 "counts_to" ["words", "length"] (spPN ⟨C, K, l.prog, w⟩ (fun x : (List Str) × Int × Unit => m_counts_to x.1 x.2.1)) f11 _ := ⟨okCountsTo F11 BA, b11, k11, PySem.W.mg_of X G a11⟩
  have X_check_length : CalG l.prog w K mg base 1 "check_length" ["length"] (spP ⟨C, K, l.prog, w⟩ (fun x : Int × Unit => m_check_length x.1)) f13 _ := ⟨okCheckLength F13 BA, b13, k13, PySem.W.mg_of X G a13⟩
  have X_count_texts : CalG l.prog w K mg base 4 "count_texts" ["stock", "length"] (spP ⟨C, K, l.prog, w⟩ (fun x : Stk × Int × Unit => m_count_texts x.1 x.2.1)) f12 _ := ⟨okCountTexts F12 BA T hpp G32 b32 X_check_length X_check_one_way X_counts_to, b12, k12, PySem.W.mg_of X G a12⟩
  have X_letters_in : CalG l.prog w K mg base 1 "letters_in" ["words"] (spPN ⟨C, K, l.prog, w⟩ (fun x : (List Str) × Unit => m_letters_in x.1)) f14 _ := ⟨okLettersIn F14 BA, b14, k14, PySem.W.mg_of X G a14⟩
  have X_ends_behind : CalG l.prog w K mg base 1 "ends_behind" ["words", "ends", "sign"] (spPN ⟨C, K, l.prog, w⟩ (fun x : (List Str) × (List Str) × Str × Unit => m_ends_behind x.1 x.2.1 x.2.2.1)) f15 _ := ⟨okEndsBehind F15 BA, b15, k15, PySem.W.mg_of X G a15⟩
  have X_count_completed : CalG l.prog w K mg base 1 "count_completed" ["many", "ends", "length"] (spP ⟨C, K, l.prog, w⟩ (fun x : (List Int) × (List Str) × Int × Unit => m_count_completed x.1 x.2.1 x.2.2.1)) f16 _ := ⟨okCountCompleted F16 BA, b16, k16, PySem.W.mg_of X G a16⟩
  have X_letter_at_index : CalG l.prog w K mg base 2 "letter_at_index" ["words", "many", "ends", "behind", "index"] (spP ⟨C, K, l.prog, w⟩ (fun x : (List Str) × (List Int) × (List Str) × Int × Int × Unit => m_letter_at_index x.1 x.2.1 x.2.2.1 x.2.2.2.1 x.2.2.2.2.1)) f18 _ := ⟨okLetterAtIndex F18 BA X_count_completed X_ends_behind X_letters_in, b18, k18, PySem.W.mg_of X G a18⟩
  have X_nth_text : CalG l.prog w K mg base 4 "nth_text" ["stock", "length", "index"] (spP ⟨C, K, l.prog, w⟩ (fun x : Stk × Int × Int × Unit => m_nth_text x.1 x.2.1 x.2.2.1)) f17 _ := ⟨okNthText F17 BA T hpp G32 b32 X_check_length X_check_one_way X_counts_to X_ends_behind X_letter_at_index, b17, k17, PySem.W.mg_of X G a17⟩
  have X_text_index : CalG l.prog w K mg base 4 "text_index" ["stock", "text"] (spP ⟨C, K, l.prog, w⟩ (fun x : Stk × Str × Unit => m_text_index x.1 x.2.1)) f19 _ := ⟨okTextIndex F19 BA T hpp G32 b32 X_check_one_way X_count_completed X_counts_to X_ends_behind X_is_made X_letters_in, b19, k19, PySem.W.mg_of X G a19⟩
  have X_law_word : CalG l.prog w K mg base 2 "_law_word" ["pool", "widest", "signs"] (spL ⟨C, K, l.prog, w⟩ (fun x : Int × Str × Unit => m_law_word x.1 x.2.1)) f22 _ := ⟨okWord F22 BA X_law_draw, b22, k22, PySem.W.mg_of X G a22⟩
  have X_law_lot : CalG l.prog w K mg base 3 "_law_lot" ["pool", "many", "widest"] (spLN ⟨C, K, l.prog, w⟩ (fun x : Int × Int × Unit => m_law_lot x.1 x.2.1)) f23 _ := ⟨okLot F23 BA X_law_draw X_law_word, b23, k23, PySem.W.mg_of X G a23⟩
  have X_law_known : CalG l.prog w K mg base 2 "_law_known" ["pool"] (spLN ⟨C, K, l.prog, w⟩ (fun x : Unit => m_law_known)) f24 _ := ⟨okKnown F24 BA X_law_draw, b24, k24, PySem.W.mg_of X G a24⟩
  have X_law_rests : CalG l.prog w K mg base 1 "_law_rests" ["lot"] (spP ⟨C, K, l.prog, w⟩ (fun x : (List Str) × Unit => m_law_rests x.1)) f25 _ := ⟨oklRests F25 BA, b25, k25, PySem.W.mg_of X G a25⟩
  have X_law_eased : CalG l.prog w K mg base 2 "_law_eased" ["lot"] (spPN ⟨C, K, l.prog, w⟩ (fun x : (List Str) × Unit => m_law_eased x.1)) f26 _ := ⟨oklEased F26 BA X_law_rests, b26, k26, PySem.W.mg_of X G a26⟩
  have X_law_few : CalG l.prog w K mg base 1 "_law_few" ["lot", "size"] (spPN ⟨C, K, l.prog, w⟩ (fun x : (List Str) × Int × Unit => m_law_few x.1 x.2.1)) f27 _ := ⟨oklFew F27 BA, b27, k27, PySem.W.mg_of X G a27⟩
  have kb_X_count_texts_1_0__law_right : KBinds K _ ["stock", "length"] ["length", "stock"] gTurn gTurn := kbinds_of F12 gTurn gTurn gTurn_rel fun _ _ _ _ _ _ us ws hl => by
    obtain ⟨rfl, x, y, rfl⟩ := gTurn_two hl
    rfl
  have kb_X_nth_text_2_1_0__law_right : KBinds K _ ["stock", "length", "index"] ["index", "length", "stock"] (gRev 3) (gRev 3) := kbinds_of F17 (gRev 3) (gRev 3) gRev_rel fun _ _ _ _ _ _ us ws hl => by
    obtain ⟨rfl, hw, e⟩ := gRev_spec (k := 3) (by decide) hl
    match ws, hw with
    | [_, _, _], _ => rfl
  have kb_X_text_index_1_0__law_right : KBinds K _ ["stock", "text"] ["text", "stock"] gTurn gTurn := kbinds_of F19 gTurn gTurn gTurn_rel fun _ _ _ _ _ _ us ws hl => by
    obtain ⟨rfl, x, y, rfl⟩ := gTurn_two hl
    rfl
  have X_law_right : CalG l.prog w K mg base 7 "_law_right" ["pool"] (spL ⟨C, K, l.prog, w⟩ (fun x : Unit => m_law_right)) f28 _ := ⟨oklRight F28 BA T G30 b30 hpp G32 b32 X_law_draw X_law_eased X_law_few X_law_known X_law_lot X_count_texts X_nth_text X_text_index kb_X_count_texts_1_0__law_right kb_X_nth_text_2_1_0__law_right kb_X_text_index_1_0__law_right, b28, k28, PySem.W.mg_of X G a28⟩
  exact ok_law F29 B G20 b20 k20 (PySem.W.mg_of X G a20) X_law_right
theorem walk {l : PySem.W.OpenLaw} {q : Program} {loose : List Str} {XP : (Str → Option Value) → Heap → Prop} {YP : World → Heap → Prop} {d : DefRec} {K : Params → PySem.W.Frag} (hn : l.most = some 63) (hdf : d.params.defaults = [])
    (hY : ∀ (w : World) (h : Heap), YP w h → (K w.params).In h)
    (F : ∀ (w : World) (mg : Str → Option Value) (fa : Addr) (h : Heap), (K w.params).In h → h.Ns mainGlobals mg → mg d.name = some (.ref fa) →
      ∃ fd : FuncData, (∀ (s : Shared) (u : Value), BindsTo s fd ⟨[u], []⟩ [("script", u)]) ∧ ∀ base : Heap, (K w.params).In base → base.Ns mainGlobals mg → FnG l.prog w (K w.params) mg base CX0 8 fa fd ["script"] (spLaw (K w.params))) :
    PySem.W.WalkO q loose XP YP l.row.toRowW d [] (fun f vs => PySem.call f vs) :=
  walk_G (n := 63) (k := 8) (x := "script") (sp := fun w => spLaw (K w.params)) hn (by decide) hdf ⟨rfl, by decide, by decide⟩ hY F (fun _ _ a ns hl _ hS => ⟨a, ns, rfl, hS, hl, fun _ => rfl⟩)
end WH
open PySem PySem.W PyProof.Rows
set_option maxRecDepth 100000 in
set_option maxHeartbeats 0 in
theorem PySem.Challenge.cw_wordhulls_k41_texts_counted_holds : PySem.Challenge.rw_wordhulls_k41_texts_counted.Holds := by
  w_on; o_law; k_head; (case hw => w_witness2)
  k_fill
  refine WH.walk (l := PySem.Challenge.rw_wordhulls_k41_texts_counted) rfl rfl (fun w h Y => PySem.W.kIn_of Y) ?F
  case F =>
    intro w mg fa h KX G hmg
    refine' WH.all_mk KX G hmg ?a1 ?l1 ?c1 ?k1 ?a2 ?l2 ?c2 ?k2 ?a3 ?l3 ?c3 ?k3 ?a4 ?l4 ?c4 ?k4 ?a5 ?l5 ?c5 ?k5 ?a6 ?l6 ?c6 ?k6 ?a7 ?l7 ?c7 ?k7 ?a8 ?l8 ?c8 ?k8 ?a9 ?l9 ?c9 ?k9 ?a10 ?l10 ?c10 ?k10 ?a11 ?l11 ?c11 ?k11 ?a12 ?l12 ?c12 ?k12 ?a13 ?l13 ?c13 ?k13 ?a14 ?l14 ?c14 ?k14 ?a15 ?l15 ?c15 ?k15 ?a16 ?l16 ?c16 ?k16 ?a17 ?l17 ?c17 ?k17 ?a18 ?l18 ?c18 ?k18 ?a19 ?l19 ?c19 ?k19 ?a20 ?l20 ?c20 ?k20 ?a21 ?l21 ?c21 ?k21 ?a22 ?l22 ?c22 ?k22 ?a23 ?l23 ?c23 ?k23 ?a24 ?l24 ?c24 ?k24 ?a25 ?l25 ?c25 ?k25 ?a26 ?l26 ?c26 ?k26 ?a27 ?l27 ?c27 ?k27 ?a28 ?l28 ?c28 ?k28 ?a29 ?l29 ?c29 ?k29 ?a30 ?i30 ?l30 ?c30 ?k30 ?a31 ?i31 ?l31 ?c31 ?k31 ?l32 ?c32 ?k32 ?vL ?vM ?vN ?vH0 ?vH1 ?vH2 ?z_len ?z_max ?z_min ?z_abs ?z_int ?z_range ?z_all ?z_any ?z_sum ?z_list ?z_tuple ?z_set ?z_sorted ?z_enumerate ?z_zip ?z_reversed ?z_repr ?z_isinstance ?aC ?pg ?hd ?po ?sa ?mk ?kc ?nW ?xC ?ne ?pa ?pget ?ptk ?prc ?ha ?hn ?htk ?hm ?ki
    (case aC => k_is)
    (case pa => k_is)
    (case prc => k_is)
    (case a1 => k_is)
    (case l1 => k_is)
    (case c1 => k_is)
    (case k1 => k_is)
    (case a2 => k_is)
    (case l2 => k_is)
    (case c2 => k_is)
    (case k2 => k_is)
    (case a3 => k_is)
    (case l3 => k_is)
    (case c3 => k_is)
    (case k3 => k_is)
    (case a4 => k_is)
    (case l4 => k_is)
    (case c4 => k_is)
    (case k4 => k_is)
    (case a5 => k_is)
    (case l5 => k_is)
    (case c5 => k_is)
    (case k5 => k_is)
    (case a6 => k_is)
    (case l6 => k_is)
    (case c6 => k_is)
    (case k6 => k_is)
    (case a7 => k_is)
    (case l7 => k_is)
    (case c7 => k_is)
    (case k7 => k_is)
    (case a8 => k_is)
    (case l8 => k_is)
    (case c8 => k_is)
    (case k8 => k_is)
    (case a9 => k_is)
    (case l9 => k_is)
    (case c9 => k_is)
    (case k9 => k_is)
    (case a10 => k_is)
    (case l10 => k_is)
    (case c10 => k_is)
    (case k10 => k_is)
    (case a11 => k_is)
    (case l11 => k_is)
    (case c11 => k_is)
    (case k11 => k_is)
    (case a12 => k_is)
    (case l12 => k_is)
    (case c12 => k_is)
    (case k12 => k_is)
    (case a13 => k_is)
    (case l13 => k_is)
    (case c13 => k_is)
    (case k13 => k_is)
    (case a14 => k_is)
    (case l14 => k_is)
    (case c14 => k_is)
    (case k14 => k_is)
    (case a15 => k_is)
    (case l15 => k_is)
    (case c15 => k_is)
    (case k15 => k_is)
    (case a16 => k_is)
    (case l16 => k_is)
    (case c16 => k_is)
    (case k16 => k_is)
    (case a17 => k_is)
    (case l17 => k_is)
    (case c17 => k_is)
    (case k17 => k_is)
    (case a18 => k_is)
    (case l18 => k_is)
    (case c18 => k_is)
    (case k18 => k_is)
    (case a19 => k_is)
    (case l19 => k_is)
    (case c19 => k_is)
    (case k19 => k_is)
    (case a20 => k_is)
    (case l20 => k_is)
    (case c20 => k_is)
    (case k20 => k_is)
    (case a21 => k_is)
    (case l21 => k_is)
    (case c21 => k_is)
    (case k21 => k_is)
    (case a22 => k_is)
    (case l22 => k_is)
    (case c22 => k_is)
    (case k22 => k_is)
    (case a23 => k_is)
    (case l23 => k_is)
    (case c23 => k_is)
    (case k23 => k_is)
    (case a24 => k_is)
    (case l24 => k_is)
    (case c24 => k_is)
    (case k24 => k_is)
    (case a25 => k_is)
    (case l25 => k_is)
    (case c25 => k_is)
    (case k25 => k_is)
    (case a26 => k_is)
    (case l26 => k_is)
    (case c26 => k_is)
    (case k26 => k_is)
    (case a27 => k_is)
    (case l27 => k_is)
    (case c27 => k_is)
    (case k27 => k_is)
    (case a28 => k_is)
    (case l28 => k_is)
    (case c28 => k_is)
    (case k28 => k_is)
    (case a29 => k_is)
    (case l29 => k_is)
    (case c29 => k_is)
    (case k29 => k_is)
    (case a30 => k_is)
    (case i30 => k_is)
    (case l30 => k_is)
    (case c30 => k_is)
    (case k30 => k_is)
    (case a31 => k_is)
    (case i31 => k_is)
    (case l31 => k_is)
    (case c31 => k_is)
    (case k31 => k_is)
    (case l32 => k_is)
    (case c32 => k_is)
    (case k32 => k_is)
    (case vL => k_is)
    (case vM => k_is)
    (case vN => k_is)
    (case vH0 => k_is)
    (case vH1 => k_is)
    (case vH2 => k_is)
    (case z_len => k_is)
    (case z_max => k_is)
    (case z_min => k_is)
    (case z_abs => k_is)
    (case z_int => k_is)
    (case z_range => k_is)
    (case z_all => k_is)
    (case z_any => k_is)
    (case z_sum => k_is)
    (case z_list => k_is)
    (case z_tuple => k_is)
    (case z_set => k_is)
    (case z_sorted => k_is)
    (case z_enumerate => k_is)
    (case z_zip => k_is)
    (case z_reversed => k_is)
    (case z_repr => k_is)
    (case z_isinstance => k_is)
    (case pg => k_is)
    (case hd => k_is)
    (case po => k_is)
    (case sa => k_is)
    (case mk => k_is)
    (case kc => k_is)
    (case nW => k_is)
    (case xC => k_is)
    (case ne => k_is)
    (case pget => k_is)
    (case ptk => k_is)
    (case ha => k_is)
    (case hn => k_is)
    (case htk => k_is)
    (case hm => k_is)
    (case ki => first | rfl | k_is)
