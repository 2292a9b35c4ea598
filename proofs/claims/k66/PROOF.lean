import PyProof.Rows.All
import Wide.All
import OpenK.AllK
import Wide.FinOn
import HandS.ForMost
import HandS.Wide
import HandS.IsInst
import HandS.Walk
import HandS.Star
import HandS.TupAny
import HandS.Style
import HandS.Deep
import KE.GoesNew
import HandS.DeepEq
import HandS.BoundDict
import HandS.SetBool
import HandS.Strs
import HandS.SortInts
import KE.GoesEnumKw
import HandS.SetFor
import HandS.GenList
import HandS.AnyAll
import HandS.EndBits
import KE.KeyNested
import HandS.TupMul
import PySem.Challenge.RW_clicktrain_k66_wheels_behind_trains_look
set_option Elab.async false
set_option linter.all false
set_option maxRecDepth 100000
set_option maxHeartbeats 4000000
namespace Ct
open PySem PySem.Spec PyProof.Rows L2
/-! walking a reading, construct by construct -/
section
variable {K : PySem.W.Frag} {H : Hp} {σ : L2.St} {D : Ends} {Q : VK} {QB : Bool → Hp → Prop} {QA : List V → Hp → Prop} {QS : L2.St → Hp → Prop}
theorem w_seq {t u : TS} (h : t { D with nx := u D } σ H) : tSeq t u D σ H := h
theorem w_join {t u : TS} (J : L2.St → Hp → Prop) (h1 : ∀ σ' H', J σ' H' → u D σ' H') (h2 : ∀ N : L2.St → Hp → Prop, (∀ σ' H', J σ' H' → N σ' H') → t { D with nx := N } σ H) : tSeq t u D σ H := h2 (u D) h1
theorem w_asg {te : TE} {g : TG} (h : te σ H fun x H1 => g x σ H1 D.nx) : tAsg te g D σ H := h
theorem w_ret {te : TE} (h : te σ H D.rt) : tRet te D σ H := h
theorem w_ifS {c : TT} {t u : TS} (h : c σ H fun b H1 => if b = true then t D σ H1 else u D σ H1) : tIfS c t u D σ H := h
theorem w_drop {te : TE} (h : te σ H fun _ H1 => D.nx σ H1) : tDrop te D σ H := h
theorem w_next (h : D.nx σ H) : tNext D σ H := h
theorem w_var {i : Nat} {v : V} (e : σ[i]? = some (some v)) (h : Q v H) : tVar i σ H Q := ⟨v, e, h⟩
theorem w_c {v : V} (h : Q v H) : tC v σ H Q := h
theorem w_op {r : R2} {ta tb : TE} (h : ta σ H fun x H1 => tb σ H1 fun y H2 => r x y H2 Q) : tOp r ta tb σ H Q := h
theorem w_chain {r r' : R2} {ta tb tc : TE} (h : ta σ H fun x H1 => tb σ H1 fun y H2 => r x y H2 fun z H3 => ∃ k, z = .bl k ∧ (if k = true then tc σ H3 fun w' H4 => r' y w' H4 Q else Q (.bl false) H3)) : tChain r r' ta tb tc σ H Q := h
theorem w_un {r : V → Hp → VK → Prop} {ta : TE} (h : ta σ H fun x H1 => r x H1 Q) : tUn r ta σ H Q := h
theorem w_test {t : TE} (h : t σ H fun x H' => ∃ k, x = .bl k ∧ QB k H') : tTest t σ H QB := h
theorem w_B {t : TE} (h : t σ H fun x H' => ∃ k, x = .bl k ∧ QB k H') : tB t σ H QB := h
theorem w_and {t u : TT} (h : t σ H fun c H1 => if c = true then u σ H1 QB else QB false H1) : tAnd t u σ H QB := h
theorem w_or {t u : TT} (h : t σ H fun c H1 => if c = true then QB true H1 else u σ H1 QB) : tOr t u σ H QB := h
theorem w_not {t : TT} (h : t σ H fun c H1 => QB (!c) H1) : tNot t σ H QB := h
theorem w_if {t : TT} {ta tb : TE} (h : t σ H fun c H1 => if c = true then ta σ H1 Q else tb σ H1 Q) : tIf t ta tb σ H Q := h
theorem w_nil (h : QA [] H) : tNil σ H QA := h
theorem w_cons {ta : TE} {tr : TA} (h : ta σ H fun x H1 => tr σ H1 fun xs H2 => QA (x :: xs) H2) : tCons ta tr σ H QA := h
theorem w_cb {r : List V → Hp → VK → Prop} {t : TA} (h : t σ H fun vs H1 => r vs H1 Q) : tCB r t σ H Q := h
theorem w_call {sp : Sp} {dvs : List V} {E : XK} {t : TA} (h : t σ H fun vs H1 => sp (vs ++ dvs) H1 Q E) : tCall sp dvs E t σ H Q := h
theorem w_name {i : Nat} {v : V} {σ' : L2.St} (e : σ.set i (some v) = σ') (h : QS σ' H) : gName i v σ H QS := by
  unfold gName
  rw [e]
  exact h
theorem w_rI {C : Int → Int → Prop} {g : Int → Int → V} {i j : Int} (c : C i j) (h : Q (g i j) H) : rI C g (.int i) (.int j) H Q := ⟨i, j, rfl, rfl, c, h⟩
theorem w_rI0 {g : Int → Int → V} {i j : Int} (h : Q (g i j) H) : rI0 g (.int i) (.int j) H Q := ⟨i, j, rfl, rfl, h⟩
theorem w_rU {g : Int → V} {i : Int} (h : Q (g i) H) : rU g (.int i) H Q := ⟨i, rfl, h⟩
theorem w_rEqI {i j : Int} (h : Q (.bl (decide (i = j))) H) : rEq (.int i) (.int j) H Q := by
  refine ⟨rfl, ?_⟩
  rw [show decide (V.int i = V.int j) = decide (i = j) from by
    by_cases e : i = j
    · subst e
      rw [decide_eq_true rfl, decide_eq_true rfl]
    · rw [decide_eq_false e, decide_eq_false fun z => e (V.int.inj z)]]
  exact h
theorem w_rNeI {i j : Int} (h : Q (.bl (!decide (i = j))) H) : rNe (.int i) (.int j) H Q := by
  refine ⟨rfl, ?_⟩
  rw [show decide (V.int i = V.int j) = decide (i = j) from by
    by_cases e : i = j
    · subst e
      rw [decide_eq_true rfl, decide_eq_true rfl]
    · rw [decide_eq_false e, decide_eq_false fun z => e (V.int.inj z)]]
  exact h
theorem w_rEqS {x y : Str} {b : Bool} (e : decide (V.str x = V.str y) = b) (h : Q (.bl b) H) : rEq (.str x) (.str y) H Q := by
  refine ⟨rfl, ?_⟩
  rw [e]
  exact h
theorem w_bl {b : Bool} {QP : Bool → Prop} (h : QP b) : ∃ k, V.bl b = .bl k ∧ QP k := ⟨b, rfl, h⟩
theorem w_in {i : Int} {QP : Int → Prop} (h : QP i) : ∃ k, V.int i = .int k ∧ QP k := ⟨i, rfl, h⟩
theorem w_ixT {p : Addr} {xs : List V} {i : Int} {v : V} (h : SqT K H p xs) (e : atI xs i = some v) (q : Q v H) : rIxT K (.ref p) (.int i) H Q := ⟨p, xs, i, v, rfl, rfl, h, e, q⟩
theorem w_ixL {p : Addr} {xs : List V} {i : Int} {v : V} (h : SqL K H p xs) (e : atI xs i = some v) (q : Q v H) : rIxL K (.ref p) (.int i) H Q := ⟨p, xs, i, v, rfl, rfl, h, e, q⟩
theorem w_tup {t : TA} (h : t σ H fun xs H1 => xs.length ≤ sizeLine ∧ ∀ p, H1 p = none → Q (.ref p) (upd H1 p (.tup xs))) : tTup t σ H Q := h
theorem w_lst {t : TA} (h : t σ H fun xs H1 => xs.length ≤ sizeLine ∧ ∀ p, H1 p = none → Q (.ref p) (upd H1 p (.lst xs))) : tLst t σ H Q := h
theorem w_bm {T : String} {r : V → List V → Hp → VK → Prop} {to : TE} {t : TA} (h : to σ H fun x H1 => tyV K T x H1 ∧ t σ H1 fun xs H2 => r x xs H2 Q) : tBM K T r to t σ H Q := h
theorem w_inT {p : Addr} {x : Int} {ns : List Int} (h : SqT K H p (ns.map V.int)) (q : Q (.bl (decide (x ∈ ns))) H) : rIn K false (.int x) (.ref p) H Q := by
  refine ⟨p, ns.map V.int, rfl, .inr h, rfl, ?_, ?_⟩
  · rw [List.all_map]
    exact List.all_eq_true.mpr fun _ _ => rfl
  · rw [if_neg Bool.false_ne_true]
    rw [show inV (.int x) (ns.map V.int) = decide (x ∈ ns) from by
      unfold inV
      rw [List.any_map]
      by_cases e : x ∈ ns
      · rw [decide_eq_true e, List.any_eq_true]
        exact ⟨x, e, by show (x == x) = true; exact beq_self_eq_true x⟩
      · rw [decide_eq_false e, List.any_eq_false]
        intro y hy
        show ¬ (y == x) = true
        intro z
        have : y = x := eq_of_beq z
        subst this
        exact e hy]
    exact q
theorem w_break (h : D.bk σ H) : tBreak D σ H := h
theorem w_cont (h : D.ct σ H) : tCont D σ H := h
theorem w_nT {A B : Prop} (h : B) : if (!true) = true then A else B := h
theorem w_nF {A B : Prop} (h : A) : if (!false) = true then A else B := h
theorem w_ite {c A B : Prop} [Decidable c] (h1 : c → A) (h2 : ¬ c → B) : if (decide c) = true then A else B := by
  by_cases h : c
  · rw [if_pos (decide_eq_true h)]
    exact h1 h
  · rw [if_neg (by rw [decide_eq_false h]; exact Bool.false_ne_true)]
    exact h2 h
theorem w_iteN {c A B : Prop} [Decidable c] (h1 : ¬ c → A) (h2 : c → B) : if (!decide c) = true then A else B := by
  by_cases h : c
  · rw [decide_eq_true h]
    exact iteF (h2 h)
  · rw [decide_eq_false h]
    exact iteT (h1 h)
theorem w_st {t : TS} {σ' : L2.St} (e : σ = σ') (h : t D σ' H) : t D σ H := by
  rw [e]
  exact h
end
/-! heaps -/
theorem same_new {H0 H : Hp} {p : Addr} {o : HO} (s : Same H0 H) (h : H0 p = none) : Same H0 (upd H p o) := fun b x e => by
  rw [upd_ne (ne_of_none e h)]
  exact s b x e
theorem same_upd {H : Hp} {p : Addr} {o : HO} (h : H p = none) : Same H (upd H p o) := same_new (Same.refl H) h
theorem Same.tup {K : PySem.W.Frag} {H H' : Hp} {a : Addr} {xs : List V} (e : Same H H') (h : SqT K H a xs) : SqT K H' a xs := by
  rcases h with (h | ⟨o, h⟩) | h
  · exact .inl (.inl (e _ _ h))
  · exact .inl (.inr ⟨o, e _ _ h⟩)
  · exact .inr h
theorem Same.new {H H' : Hp} {p : Addr} (s : Same H H') (h : H' p = none) : H p = none := s.free h
mutual
theorem dp_same {K : PySem.W.Frag} {H H' : Hp} (e : Same H H') : ∀ {v : V} {d : PyData}, Dp K H v d → Dp K H' v d
  | _, _, .non => .non
  | _, _, .bl b => .bl b
  | _, _, .int i => .int i
  | _, _, .str x => .str x
  | _, _, .lst h t => .lst (e.seq h) (dpAll_same e t)
  | _, _, .tup h t => .tup (Same.tup e h) (dpAll_same e t)
theorem dpAll_same {K : PySem.W.Frag} {H H' : Hp} (e : Same H H') : ∀ {vs : List V} {ds : List PyData}, DpAll K H vs ds → DpAll K H' vs ds
  | _, _, .nil => .nil
  | _, _, .cons h t => .cons (dp_same e h) (dpAll_same e t)
end
theorem dpAll_len {K : PySem.W.Frag} {H : Hp} : ∀ {vs : List V} {ds : List PyData}, DpAll K H vs ds → vs.length = ds.length
  | _, _, .nil => rfl
  | _, _, .cons _ t => by rw [List.length_cons, List.length_cons, dpAll_len t]
theorem dpAll_get {K : PySem.W.Frag} {H : Hp} : ∀ {vs : List V} {ds : List PyData} {i : Nat} {d : PyData}, DpAll K H vs ds → ds[i]? = some d → ∃ v, vs[i]? = some v ∧ Dp K H v d
  | _, _, _, _, .nil, e => by simp at e
  | _, _, 0, _, .cons h _, e => by
    cases (Option.some.inj e)
    exact ⟨_, rfl, h⟩
  | _, _, i + 1, _, .cons _ t, e => dpAll_get (i := i) t e
theorem dpAll_ints {K : PySem.W.Frag} {H : Hp} : ∀ (ns : List Int), DpAll K H (ns.map V.int) (ns.map PyData.int)
  | [] => .nil
  | n :: r => .cons (.int n) (dpAll_ints r)
theorem dpAll_ints_inv {K : PySem.W.Frag} {H : Hp} : ∀ {vs : List V} (ns : List Int), DpAll K H vs (ns.map PyData.int) → vs = ns.map V.int
  | _, [], .nil => rfl
  | _, n :: r, .cons (.int _) t => by rw [dpAll_ints_inv r t, List.map_cons]
theorem dpAll_app {K : PySem.W.Frag} {H : Hp} : ∀ {vs ws : List V} {ds es : List PyData}, DpAll K H vs ds → DpAll K H ws es → DpAll K H (vs ++ ws) (ds ++ es)
  | _, _, _, _, .nil, h => h
  | _, _, _, _, .cons a t, h => .cons a (dpAll_app t h)
theorem ix_at {n j : Nat} {k : Int} (e : k = (j : Int)) (h : j < n) : ixN n k = some j := by
  subst e
  unfold ixN
  rw [if_pos (Int.natCast_nonneg j), if_pos (by omega)]
  rfl
theorem cutV_map (ms : List Int) (lo hi : Option Int) : cutV (ms.map V.int) lo hi = ((ms.drop (HT.sIx ms.length 0 lo)).take (HT.sIx ms.length ms.length hi - HT.sIx ms.length 0 lo)).map V.int := by
  unfold cutV
  rw [List.length_map, List.map_take, List.map_drop]
theorem at0 {x : V} {r : List V} : atI (x :: r) 0 = some x := atI_nat (xs := x :: r) (j := 0) rfl
theorem at1 {x y : V} {r : List V} : atI (x :: y :: r) 1 = some y := atI_nat (xs := x :: y :: r) (j := 1) rfl
theorem at2 {x y z : V} {r : List V} : atI (x :: y :: z :: r) 2 = some z := atI_nat (xs := x :: y :: z :: r) (j := 2) rfl
theorem len2 {n : Nat} (h : Nat.ble n sizeLine = true) : n ≤ sizeLine := Nat.le_of_ble_eq_true h
/-! sizes of numbers -/
theorem div_ok {i j : Int} (h : 0 < j) (h2 : j < 2 ^ 250) : CDivW i j := wide_div (b := 250) h (by omega) (by decide) (by decide)
theorem mul_ok {i j : Int} (h1 : -(2 ^ 250) < i) (h2 : i < 2 ^ 250) (h3 : -(2 ^ 250) < j) (h4 : j < 2 ^ 250) : CMulW i j := wide_mul (a := 250) (b := 250) (by omega) (by omega) (by decide) (by decide) (by decide)
/-- a power whose bits are few -/
def CPowB (i j : Int) : Prop := 0 ≤ j ∧ (Builtin.Int.intBits i : Int) * j ≤ 2 ^ 27
theorem op_powB {X : Cx} : OpR X (binaryOp .Pow) (rI CPowB fun i j => .int (i ^ j.toNat)) := opI fun _ _ _ _ _ _ _ hc q => pow_int hc.1 hc.2 q
/-! loops, targets, stores -/
section
variable {K : PySem.W.Frag} {H : Hp} {σ : L2.St} {D : Ends} {Q : VK} {QA : List V → Hp → Prop} {QS : L2.St → Hp → Prop} {R : It → Hp → Prop}
def FB (J : It) (g : TG) (tb : TS) (D : Ends) (σ : L2.St) (H : Hp) : Prop := tFor (fun _ H R => R J H) g tb D σ H
theorem w_for {wi : TI} {g : TG} {tb : TS} (h : wi σ H fun J H1 => FB J g tb D σ H1) : tFor wi g tb D σ H := h
def RG1 (vs : List V) (H : Hp) (R : It → Hp → Prop) : Prop := iRng1 (fun _ H Q => Q vs H) [] H R
def RG2 (vs : List V) (H : Hp) (R : It → Hp → Prop) : Prop := iRng2 (fun _ H Q => Q vs H) [] H R
theorem w_rng1 {ta : TA} (h : ta σ H fun vs H1 => RG1 vs H1 R) : iRng1 ta σ H R := h
theorem w_rng2 {ta : TA} (h : ta σ H fun vs H1 => RG2 vs H1 R) : iRng2 ta σ H R := h
theorem w_RG1 {j : Int} (h1 : -(2 ^ 62) ≤ j) (h2 : j < 2 ^ 62) (h : R (Itr 0 j.toNat) H) : RG1 [.int j] H R := ⟨j, rfl, h1, h2, h⟩
theorem w_RG2 {i j : Int} (h1 : -(2 ^ 62) ≤ i) (h2 : i < 2 ^ 62) (h3 : -(2 ^ 62) ≤ j) (h4 : j < 2 ^ 62) (h : R (Itr i (j - i).toNat) H) : RG2 [.int i, .int j] H R := ⟨i, j, rfl, ⟨h1, h2, h3, h4⟩, h⟩
def IL (K : PySem.W.Frag) (v : V) (H : Hp) (R : It → Hp → Prop) : Prop := iList K (tC v) [] H R
def IT (K : PySem.W.Frag) (v : V) (H : Hp) (R : It → Hp → Prop) : Prop := iTup K (tC v) [] H R
theorem w_ilist {tl : TE} (h : tl σ H fun v H1 => IL K v H1 R) : iList K tl σ H R := h
theorem w_itup {tl : TE} (h : tl σ H fun v H1 => IT K v H1 R) : iTup K tl σ H R := h
theorem w_IL {a : Addr} {xs : List V} (h : SqL K H a xs) (q : R (Itl K a) H) : IL K (.ref a) H R := ⟨a, rfl, ⟨xs, h⟩, q⟩
theorem w_IT {a : Addr} {xs : List V} (h : SqT K H a xs) (q : R (Itt K a) H) : IT K (.ref a) H R := ⟨a, rfl, ⟨xs, h⟩, q⟩
theorem fb_range {lo : Int} {n : Nat} {g : TG} {tb : TS} (Pv : Nat → L2.St → Hp → Prop) (h0 : Pv 0 σ H)
    (hs : ∀ i σ H, i < n → Pv i σ H → g (.int (lo + i)) σ H fun σ2 H2 => tb { D with nx := Pv (i + 1), ct := Pv (i + 1), bk := D.nx } σ2 H2) (hd : ∀ σ H, Pv n σ H → D.nx σ H) : FB (Itr lo n) g tb D σ H := for_range Pv h0 hs hd
theorem fb_list {a : Addr} (xs : List V) {g : TG} {tb : TS} (Pv : Nat → L2.St → Hp → Prop) (h0 : Pv 0 σ H) (hl : ∀ i σ H, i ≤ xs.length → Pv i σ H → SqL K H a xs)
    (hs : ∀ i x σ H, xs[i]? = some x → Pv i σ H → g x σ H fun σ2 H2 => tb { D with nx := Pv (i + 1), ct := Pv (i + 1), bk := D.nx } σ2 H2) (hd : ∀ σ H, Pv xs.length σ H → D.nx σ H) : FB (Itl K a) g tb D σ H := for_list Pv h0 hl hs hd
theorem fb_tup {a : Addr} (xs : List V) {g : TG} {tb : TS} (Pv : Nat → L2.St → Hp → Prop) (h0 : Pv 0 σ H) (hl : ∀ i σ H, i ≤ xs.length → Pv i σ H → SqT K H a xs)
    (hs : ∀ i x σ H, xs[i]? = some x → Pv i σ H → g x σ H fun σ2 H2 => tb { D with nx := Pv (i + 1), ct := Pv (i + 1), bk := D.nx } σ2 H2) (hd : ∀ σ H, Pv xs.length σ H → D.nx σ H) : FB (Itt K a) g tb D σ H := for_tup Pv h0 hl hs hd
def LB (J : It) (g : TG) (tt : TT) (te : TE) (vs : List Nat) (σ : L2.St) (H : Hp) (Q : VK) : Prop := tLc (fun _ H R => R J H) g tt te vs σ H Q
theorem w_lc {wi : TI} {g : TG} {tt : TT} {te : TE} {vs : List Nat} (h : wi σ H fun J H1 => LB J g tt te vs σ H1 Q) : tLc wi g tt te vs σ H Q := h
theorem lb_range {lo : Int} {n : Nat} {g : TG} {tt : TT} {te : TE} {vs : List Nat} (Pv : Addr → Nat → Hp → Prop) (h0 : ∀ D, H D = none → Pv D 0 (upd H D (.lst [])))
    (hs : ∀ D, H D = none → ∀ i H1, i < n → Pv D i H1 → g (.int (lo + i)) (wipe σ vs) H1 fun σ2 H2 => wipe σ2 vs = wipe σ vs ∧ tt σ2 H2 fun b H3 =>
      if b = true then te σ2 H3 fun y H4 => ∃ acc, H4 D = some (.lst acc) ∧ acc.length < sizeLine ∧ Pv D (i + 1) (upd H4 D (.lst (acc ++ [y]))) else Pv D (i + 1) H3) (hd : ∀ D, H D = none → ∀ H1, Pv D n H1 → Q (.ref D) H1) : LB (Itr lo n) g tt te vs σ H Q :=
  fun D hD => lc_range (Pv D) (h0 D hD) (hs D hD) (hd D hD)
theorem lb_list {a : Addr} (xs : List V) {g : TG} {tt : TT} {te : TE} {vs : List Nat} (Pv : Addr → Nat → Hp → Prop) (h0 : ∀ D, H D = none → Pv D 0 (upd H D (.lst []))) (hl : ∀ D, H D = none → ∀ i H1, i ≤ xs.length → Pv D i H1 → SqL K H1 a xs)
    (hs : ∀ D, H D = none → ∀ i x H1, xs[i]? = some x → Pv D i H1 → g x (wipe σ vs) H1 fun σ2 H2 => wipe σ2 vs = wipe σ vs ∧ tt σ2 H2 fun b H3 =>
      if b = true then te σ2 H3 fun y H4 => ∃ acc, H4 D = some (.lst acc) ∧ acc.length < sizeLine ∧ Pv D (i + 1) (upd H4 D (.lst (acc ++ [y]))) else Pv D (i + 1) H3) (hd : ∀ D, H D = none → ∀ H1, Pv D xs.length H1 → Q (.ref D) H1) : LB (Itl K a) g tt te vs σ H Q :=
  fun D hD => lc_list (Pv D) (h0 D hD) (hl D hD) (hs D hD) (hd D hD)
def IE (K : PySem.W.Frag) (vs : List V) (H : Hp) (R : It → Hp → Prop) : Prop := iEnum K (fun _ H Q => Q vs H) [] H R
theorem w_enum {ta : TA} (h : ta σ H fun vs H1 => IE K vs H1 R) : iEnum K ta σ H R := h
theorem w_IE {a : Addr} {xs : List V} (h : SqL K H a xs) (q : R (Ite K a) H) : IE K [.ref a] H R := ⟨a, xs, rfl, h, q⟩
theorem lb_enum {a : Addr} (xs : List V) {g : TG} {tt : TT} {te : TE} {vs : List Nat} (Pv : Addr → Nat → Hp → Prop) (h0 : ∀ D, H D = none → Pv D 0 (upd H D (.lst []))) (hl : ∀ D, H D = none → ∀ i H1, i ≤ xs.length → Pv D i H1 → SqL K H1 a xs)
    (hs : ∀ D, H D = none → ∀ i v T H1, xs[i]? = some v → Pv D i H1 → H1 T = none → g (.ref T) (wipe σ vs) (upd H1 T (.tup [.int (i : Nat), v])) fun σ2 H2 => wipe σ2 vs = wipe σ vs ∧ tt σ2 H2 fun b H3 =>
      if b = true then te σ2 H3 fun y H4 => ∃ acc, H4 D = some (.lst acc) ∧ acc.length < sizeLine ∧ Pv D (i + 1) (upd H4 D (.lst (acc ++ [y]))) else Pv D (i + 1) H3) (hd : ∀ D, H D = none → ∀ H1, Pv D xs.length H1 → Q (.ref D) H1) : LB (Ite K a) g tt te vs σ H Q :=
  fun D hD => lc_it (walk_enum (xs := xs)) (Pv D) (h0 D hD) (hl D hD) (fun i x H1 H2 _ p y => by
    obtain ⟨T, u, v, rfl, hT, rfl, e1, e2⟩ := y
    cases Option.some.inj e1
    exact hs D hD i v T H1 e2 p hT) (hd D hD)
theorem w_yes {QB : Bool → Hp → Prop} (h : QB true H) : tYes σ H QB := h
theorem w_gtup {n : Nat} {t : TGs} {a : Addr} {xs : List V} (h : SqT K H a xs) (e : xs.length = n) (q : t xs σ H QS) : gTup K n t (.ref a) σ H QS := ⟨a, xs, rfl, h, e, q⟩
theorem w_gcons {t : TG} {u : TGs} {v : V} {r : List V} (h : t v σ H fun σ' H' => u r σ' H' QS) : gCons t u (v :: r) σ H QS := ⟨v, r, rfl, h⟩
theorem w_gnil (h : QS σ H) : gNil [] σ H QS := ⟨rfl, h⟩
theorem w_gsub {to ti : TE} {t : TSet} {v : V} (h : to σ H fun o H1 => ti σ H1 fun i H2 => t o i v H2 fun H3 => QS σ H3) : gSub to ti t v σ H QS := h
theorem w_setL {p : Addr} {xs : List V} {k : Int} {j : Nat} {v : V} {QH : Hp → Prop} (h : H p = some (.lst xs)) (e : ixN xs.length k = some j) (q : QH (upd H p (.lst (xs.set j v)))) : rSetL (.ref p) (.int k) v H QH := ⟨p, xs, k, j, rfl, rfl, h, e, q⟩
theorem w_aug {i : Nat} {te : TE} {ti : TIp} {x : V} (e : σ[i]? = some (some x)) (h : te σ H fun y H1 => ti x y H1 fun z H2 => D.nx (σ.set i (some z)) H2) : tAug i te ti D σ H := ⟨x, e, h⟩
theorem w_ipI {f : Int → Int → Int} {i j : Int} (h : Q (.int (f i j)) H) : ipI f (.int i) (.int j) H Q := ⟨i, j, rfl, rfl, h⟩
theorem w_append {l : Addr} {xs : List V} {y : V} (h : H l = some (.lst xs)) (hl : xs.length < sizeLine) (q : Q .non (upd H l (.lst (xs ++ [y])))) : rAppend (.ref l) [y] H Q := ⟨l, xs, y, rfl, rfl, h, hl, q⟩
theorem ty_list {l : Addr} {xs : List V} (h : H l = some (.lst xs)) : tyV K "list" (.ref l) H := .inl ⟨rfl, _, .inl (.inl h)⟩
theorem w_mod {i j : Int} (h : 0 < j) (q : ∀ r, 0 ≤ r → r < j → Q (.int r) H) : rI (fun _ j => 0 < j) (fun i j => .int (i % j)) (.int i) (.int j) H Q :=
  ⟨i, j, rfl, rfl, h, q _ (Int.emod_nonneg _ (by omega)) (Int.emod_lt_of_pos _ h)⟩
theorem w_div {i j : Int} (h : CDivW i j) (q : ∀ r, Q (.int r) H) : rI CDivW (fun i j => .int (i / j)) (.int i) (.int j) H Q := ⟨i, j, rfl, rfl, h, q _⟩
theorem w_rIv {C : Int → Int → Prop} {g : Int → Int → V} {i j : Int} (v : V) (c : C i j) (e : g i j = v) (h : Q v H) : rI C g (.int i) (.int j) H Q := ⟨i, j, rfl, rfl, c, by rw [e]; exact h⟩
theorem w_isi {x : V} {n : String} {t : Value} {b : Bool} (ty : TyX K H x t) (k : PySem.W.kitOne K t (.type n) = some b) (q : Q (.bl b) H) : rIsi K [x, .ty n] H Q := ⟨x, .ty n, t, .type n, b, rfl, .ty n, ty, k, q⟩
theorem w_andV {ta tb : TE} (h : ta σ H fun x H1 => ∃ c, x = .bl c ∧ if c = true then tb σ H1 Q else Q (.bl false) H1) : tAndV ta tb σ H Q := h
theorem w_orV {ta tb : TE} (h : ta σ H fun x H1 => ∃ c, x = .bl c ∧ if c = true then Q (.bl true) H1 else tb σ H1 Q) : tOrV ta tb σ H Q := h
theorem w_notV {ta : TE} (h : ta σ H fun x H1 => ∃ c, x = .bl c ∧ Q (.bl (!c)) H1) : tNotV ta σ H Q := h
theorem w_slL {a : Addr} {xs : List V} {lo hi : Option Int} (h : SqL K H a xs) (q : ∀ p, H p = none → Q (.ref p) (upd H p (.lst (cutV xs lo hi)))) : rSlL K (.ref a) lo hi H Q := ⟨a, xs, rfl, h, q⟩
theorem w_sl {r : V → Option Int → Option Int → Hp → VK → Prop} {te : TE} {tl th : TO} (h : te σ H fun x H1 => tl σ H1 fun l H2 => th σ H2 fun u H3 => r x l u H3 Q) : tSl r te tl th σ H Q := h
theorem w_nopart {QO : Option Int → Hp → Prop} (h : QO none H) : tNoPart σ H QO := h
theorem w_part {QO : Option Int → Hp → Prop} {t : TE} (h : t σ H fun x H1 => ∃ i, x = .int i ∧ QO (some i) H1) : tPart t σ H QO := h
end
end Ct

namespace Ct
open PySem PySem.Spec PyProof.Rows L2
/-! parts, stands, what a push does -/
inductive Part where
  | wheel (z : Int) (ms : List Int) | click | rocker | spring (k : Int)
def Part.data : Part → PyData
  | .wheel z ms => .tuple [.str "wheel", .int z, .tuple (ms.map PyData.int)]
  | .click => .tuple [.str "click"]
  | .rocker => .tuple [.str "rocker"]
  | .spring k => .tuple [.str "spring", .int k]
def Part.places : Part → Int
  | .wheel z _ => z
  | .click => 1
  | .rocker => 2
  | .spring k => k
def Rise (z : Int) (ms : List Int) : Prop := ms.Pairwise (· < ·) ∧ ∀ m ∈ ms, 0 ≤ m ∧ m < z
def Part.ok : Part → Prop
  | .wheel z ms => 1 ≤ z ∧ z < 2 ^ 200 ∧ Rise z ms ∧ ms.length ≤ 1000
  | .click => True
  | .rocker => True
  | .spring k => 1 ≤ k ∧ k < 2 ^ 200
theorem Part.ok.pos {p : Part} (h : p.ok) : 1 ≤ p.places ∧ p.places < 2 ^ 200 := by
  cases p with
  | wheel z ms => exact ⟨h.1, h.2.1⟩
  | click => exact ⟨by decide, by decide⟩
  | rocker => exact ⟨by decide, by decide⟩
  | spring k => exact h
/-- the new place and what is given -/
def pp : Part → Int → Int → Int × Int
  | .wheel z ms, x, w => ((x + w) % z, if (if w = 1 then (x + w) % z else x) ∈ ms then w else 0)
  | .click, _, w => (0, if w = 1 then 1 else 0)
  | .rocker, x, w => (if w = 1 then 1 else 0, if w = 1 ∧ x = 0 then 1 else 0)
  | .spring k, x, w => if w = 1 then (if x = k - 1 then (0, 1) else (x + 1, 0)) else (if x - 1 > 0 then x - 1 else 0, 0)
def stands : List Part → Int
  | [] => 1
  | p :: r => p.places * stands r
def Sign (w : Int) : Prop := w = 1 ∨ w = -1
theorem pp_sign (p : Part) (x w : Int) (h : Sign w) : (pp p x w).2 = 0 ∨ Sign (pp p x w).2 := by
  cases p with
  | wheel z ms =>
    by_cases e : (if w = 1 then (x + w) % z else x) ∈ ms
    · rw [show (pp (.wheel z ms) x w).2 = w from if_pos e]
      exact .inr h
    · exact .inl (if_neg e)
  | click =>
    show (if w = 1 then (1 : Int) else 0) = 0 ∨ Sign (if w = 1 then (1 : Int) else 0)
    split
    · exact .inr (.inl rfl)
    · exact .inl rfl
  | rocker =>
    show (if w = 1 ∧ x = 0 then (1 : Int) else 0) = 0 ∨ Sign (if w = 1 ∧ x = 0 then (1 : Int) else 0)
    split
    · exact .inr (.inl rfl)
    · exact .inl rfl
  | spring k =>
    show (if w = 1 then (if x = k - 1 then ((0 : Int), (1 : Int)) else (x + 1, 0)) else (if x - 1 > 0 then x - 1 else 0, 0)).2 = 0 ∨ Sign (if w = 1 then (if x = k - 1 then ((0 : Int), (1 : Int)) else (x + 1, 0)) else (if x - 1 > 0 then x - 1 else 0, 0)).2
    split
    · split
      · exact .inr (.inl rfl)
      · exact .inl rfl
    · exact .inl rfl
/-- one part's turn in a push that goes along a train -/
def stp (ps : List Part) (s : List Int × Int) (n : Nat) : List Int × Int :=
  if s.2 = 0 then s else match ps[n]?, s.1[n]? with
    | some p, some x => (s.1.set n (pp p x s.2).1, (pp p x s.2).2)
    | _, _ => s
def runN (ps : List Part) (i : Nat) (s : List Int × Int) : Nat → List Int × Int
  | 0 => s
  | n + 1 => stp ps (runN ps i s n) (i + n)
theorem stp_zero {ps : List Part} {s : List Int × Int} {n : Nat} (h : s.2 = 0) : stp ps s n = s := by
  unfold stp
  rw [if_pos h]
theorem stp_at {ps : List Part} {s : List Int × Int} {n : Nat} {p : Part} {x : Int} (h : s.2 ≠ 0) (hp : ps[n]? = some p) (hx : s.1[n]? = some x) : stp ps s n = (s.1.set n (pp p x s.2).1, (pp p x s.2).2) := by
  unfold stp
  rw [if_neg h, hp, hx]
theorem runN_zero {ps : List Part} {i : Nat} {s : List Int × Int} {n : Nat} (h : (runN ps i s n).2 = 0) : ∀ m, runN ps i s (n + m) = runN ps i s n
  | 0 => rfl
  | m + 1 => by
    show stp ps (runN ps i s (n + m)) _ = _
    rw [runN_zero h m]
    exact stp_zero h
theorem stp_len (ps : List Part) (s : List Int × Int) (n : Nat) : (stp ps s n).1.length = s.1.length := by
  unfold stp
  split
  · rfl
  · split
    · show (s.1.set n _).length = _
      rw [List.length_set]
    · rfl
theorem runN_len (ps : List Part) (i : Nat) (s : List Int × Int) : ∀ n, (runN ps i s n).1.length = s.1.length
  | 0 => rfl
  | n + 1 => by
    show (stp ps _ _).1.length = _
    rw [stp_len, runN_len ps i s n]
theorem stp_other {ps : List Part} {s : List Int × Int} {n m : Nat} (h : n ≠ m) : (stp ps s n).1[m]? = s.1[m]? := by
  unfold stp
  split
  · rfl
  · split
    · show (s.1.set n _)[m]? = _
      rw [List.getElem?_set_ne h]
    · rfl
/-- parts not come to yet stand as they stood -/
theorem runN_ahead (ps : List Part) (i : Nat) (s : List Int × Int) : ∀ n m, i + n ≤ m → (runN ps i s n).1[m]? = s.1[m]?
  | 0, _, _ => rfl
  | n + 1, m, h => by
    show (stp ps _ _).1[m]? = _
    rw [stp_other (by omega), runN_ahead ps i s n m (by omega)]
theorem runN_sign (ps : List Part) (i : Nat) (s : List Int × Int) (h : Sign s.2) : ∀ n, (runN ps i s n).2 = 0 ∨ Sign (runN ps i s n).2
  | 0 => .inr h
  | n + 1 => by
    show (stp ps _ _).2 = 0 ∨ Sign (stp ps _ _).2
    rcases runN_sign ps i s h n with e | e
    · rw [stp_zero e]
      exact .inl e
    · unfold stp
      split
      · rename_i z
        exact .inl z
      · split
        · exact pp_sign _ _ _ e
        · exact .inr e
def StandOk (ps : List Part) (xs : List Int) : Prop := xs.length = ps.length ∧ ∀ (i : Nat) (p : Part) (x : Int), ps[i]? = some p → xs[i]? = some x → 0 ≤ x ∧ x < p.places
def run (ps : List Part) (xs : List Int) (i : Nat) (w : Int) : List Int × Int := runN ps i (xs, w) (ps.length - i)
/-! what stands for a part -/
section
variable {K : PySem.W.Frag} {H : Hp}
theorem tup_inv {v : V} {ds : List PyData} (h : Dp K H v (.tuple ds)) : ∃ a vs, v = .ref a ∧ SqT K H a vs ∧ DpAll K H vs ds := by
  cases h with
  | tup h t => exact ⟨_, _, rfl, h, t⟩
theorem lst_inv {v : V} {ds : List PyData} (h : Dp K H v (.list ds)) : ∃ a vs, v = .ref a ∧ SqL K H a vs ∧ DpAll K H vs ds := by
  cases h with
  | lst h t => exact ⟨_, _, rfl, h, t⟩
theorem wheel_inv {v : V} {z : Int} {ms : List Int} (h : Dp K H v (Part.wheel z ms).data) : ∃ a b, v = .ref a ∧ SqT K H a [.str "wheel", .int z, .ref b] ∧ SqT K H b (ms.map V.int) := by
  obtain ⟨a, vs, rfl, hs, ht⟩ := tup_inv h
  cases ht with
  | cons h1 t1 => cases h1; cases t1 with
    | cons h2 t2 => cases h2; cases t2 with
      | cons h3 t3 =>
        cases t3
        obtain ⟨b, ws, rfl, hb, hw⟩ := tup_inv h3
        cases dpAll_ints_inv ms hw
        exact ⟨a, b, rfl, hs, hb⟩
theorem spring_inv {v : V} {k : Int} (h : Dp K H v (Part.spring k).data) : ∃ a, v = .ref a ∧ SqT K H a [.str "spring", .int k] := by
  obtain ⟨a, vs, rfl, hs, ht⟩ := tup_inv h
  cases ht with
  | cons h1 t1 => cases h1; cases t1 with
    | cons h2 t2 => cases h2; cases t2; exact ⟨a, rfl, hs⟩
theorem click_inv {v : V} (h : Dp K H v Part.click.data) : ∃ a, v = .ref a ∧ SqT K H a [.str "click"] := by
  obtain ⟨a, vs, rfl, hs, ht⟩ := tup_inv h
  cases ht with
  | cons h1 t1 => cases h1; cases t1; exact ⟨a, rfl, hs⟩
theorem rocker_inv {v : V} (h : Dp K H v Part.rocker.data) : ∃ a, v = .ref a ∧ SqT K H a [.str "rocker"] := by
  obtain ⟨a, vs, rfl, hs, ht⟩ := tup_inv h
  cases ht with
  | cons h1 t1 => cases h1; cases t1; exact ⟨a, rfl, hs⟩
theorem wheel_dp {a b : Addr} {z : Int} {ms : List Int} (h : SqT K H a [.str "wheel", .int z, .ref b]) (hb : SqT K H b (ms.map V.int)) : Dp K H (.ref a) (Part.wheel z ms).data :=
  .tup h (.cons (.str _) (.cons (.int _) (.cons (.tup hb (dpAll_ints ms)) .nil)))
theorem spring_dp {a : Addr} {k : Int} (h : SqT K H a [.str "spring", .int k]) : Dp K H (.ref a) (Part.spring k).data := .tup h (.cons (.str _) (.cons (.int _) .nil))
theorem click_dp {a : Addr} (h : SqT K H a [.str "click"]) : Dp K H (.ref a) Part.click.data := .tup h (.cons (.str _) .nil)
theorem rocker_dp {a : Addr} (h : SqT K H a [.str "rocker"]) : Dp K H (.ref a) Part.rocker.data := .tup h (.cons (.str _) .nil)
/-- a train at a: its parts -/
def TrainAt (K : PySem.W.Frag) (H : Hp) (a : Addr) (ps : List Part) : Prop := ∃ vs, SqL K H a vs ∧ DpAll K H vs (ps.map Part.data)
theorem TrainAt.same {H' : Hp} {a : Addr} {ps : List Part} (e : Same H H') (h : TrainAt K H a ps) : TrainAt K H' a ps := by
  obtain ⟨vs, h1, h2⟩ := h
  exact ⟨vs, e.seq h1, dpAll_same e h2⟩
theorem TrainAt.at {a : Addr} {ps : List Part} {vs : List V} (h2 : DpAll K H vs (ps.map Part.data)) {i : Nat} {p : Part} (e : ps[i]? = some p) : ∃ v, vs[i]? = some v ∧ Dp K H v p.data :=
  dpAll_get h2 (by rw [List.getElem?_map, e]; rfl)
end
/-- a list that is changed leaves the parts as they are -/
theorem sqT_upd {K : PySem.W.Frag} {H : Hp} {a l : Addr} {xs ws : List V} {o : HO} (h : SqT K H a xs) (hl : H l = some (.lst ws)) : SqT K (upd H l o) a xs := by
  rcases h with (h | ⟨u, h⟩) | h
  · exact .inl (.inl (by rw [upd_ne (ne_of h hl (by intro z; cases z))]; exact h))
  · exact .inl (.inr ⟨u, by rw [upd_ne (ne_of h hl (by intro z; cases z))]; exact h⟩)
  · exact .inr h
theorem part_upd {K : PySem.W.Frag} {H : Hp} {l : Addr} {ws : List V} {o : HO} {v : V} {p : Part} (h : Dp K H v p.data) (hl : H l = some (.lst ws)) : Dp K (upd H l o) v p.data := by
  cases p with
  | wheel z ms =>
    obtain ⟨a, b, rfl, ha, hb⟩ := wheel_inv h
    exact wheel_dp (sqT_upd ha hl) (sqT_upd hb hl)
  | click =>
    obtain ⟨a, rfl, ha⟩ := click_inv h
    exact click_dp (sqT_upd ha hl)
  | rocker =>
    obtain ⟨a, rfl, ha⟩ := rocker_inv h
    exact rocker_dp (sqT_upd ha hl)
  | spring k =>
    obtain ⟨a, rfl, ha⟩ := spring_inv h
    exact spring_dp (sqT_upd ha hl)
theorem parts_upd {K : PySem.W.Frag} {H : Hp} {l : Addr} {ws : List V} {o : HO} (hl : H l = some (.lst ws)) : ∀ {vs : List V} (ps : List Part), DpAll K H vs (ps.map Part.data) → DpAll K (upd H l o) vs (ps.map Part.data)
  | _, [], .nil => .nil
  | _, p :: r, .cons h t => .cons (part_upd h hl) (parts_upd hl r t)
theorem stands_app : ∀ (ps : List Part) (p : Part), stands (ps ++ [p]) = stands ps * p.places
  | [], p => by
    show p.places * 1 = 1 * p.places
    rw [Int.mul_one, Int.one_mul]
  | a :: r, p => by
    show a.places * stands (r ++ [p]) = a.places * stands r * p.places
    rw [stands_app r p, Int.mul_assoc]
theorem stands_pos : ∀ (ps : List Part), (∀ p ∈ ps, p.ok) → 1 ≤ stands ps
  | [], _ => Int.le_refl _
  | a :: r, h => by
    have h1 := (h a List.mem_cons_self).pos.1
    have h2 := stands_pos r fun p hp => h p (List.mem_cons_of_mem _ hp)
    show 1 ≤ a.places * stands r
    have := Int.mul_le_mul h1 h2 (by decide) (by omega)
    omega
theorem room_step {s pl room most : Int} (hs : 1 ≤ s) (h1 : 1 ≤ pl) (h2 : pl ≤ room) (h : s * room ≤ most) : 1 ≤ room / pl ∧ s * pl * (room / pl) ≤ most := by
  refine ⟨Int.le_ediv_of_mul_le (by omega) (by omega), ?_⟩
  rw [Int.mul_assoc]
  exact Int.le_trans (Int.mul_le_mul_of_nonneg_left (Int.mul_ediv_self_le (by omega)) (by omega)) h
theorem room_end {s room most : Int} (hs : 1 ≤ s) (h1 : 1 ≤ room) (h : s * room ≤ most) : s ≤ most := by
  have := Int.mul_le_mul_of_nonneg_left h1 (show 0 ≤ s by omega)
  omega
/-! data that can be laid -/
theorem canLay_ints : ∀ ns : List Int, PyData.canLayAll0 (ns.map PyData.int) = true
  | [] => rfl
  | n :: r => by
    rw [List.map_cons, PyData.canLayAll0, canLay_ints r]
    rfl
theorem lay_all {n : Nat} : ∀ ds : List PyData, (∀ d ∈ ds, d.canLay0 = true ∧ d.depth ≤ n) → PyData.canLayAll0 ds = true ∧ PyData.depthAll ds ≤ n
  | [], _ => ⟨rfl, Nat.zero_le _⟩
  | d :: r, h => by
    have h1 := h d List.mem_cons_self
    have h2 := lay_all r fun e he => h e (List.mem_cons_of_mem _ he)
    rw [PyData.canLayAll0, PyData.depthAll, h1.1, h2.1]
    exact ⟨rfl, Nat.max_le.mpr ⟨h1.2, h2.2⟩⟩
theorem lay_tup {n : Nat} {ds : List PyData} (h : ∀ d ∈ ds, d.canLay0 = true ∧ d.depth ≤ n) : (PyData.tuple ds).canLay0 = true ∧ (PyData.tuple ds).depth ≤ n + 1 := by
  obtain ⟨h1, h2⟩ := lay_all ds h
  rw [PyData.canLay0, PyData.depth]
  exact ⟨h1, by omega⟩
theorem lay_lst {n : Nat} {ds : List PyData} (h : ∀ d ∈ ds, d.canLay0 = true ∧ d.depth ≤ n) : (PyData.list ds).canLay0 = true ∧ (PyData.list ds).depth ≤ n + 1 := by
  obtain ⟨h1, h2⟩ := lay_all ds h
  rw [PyData.canLay0, PyData.depth]
  exact ⟨h1, by omega⟩
theorem lay_int (n : Nat) (i : Int) : (PyData.int i).canLay0 = true ∧ (PyData.int i).depth ≤ n := ⟨rfl, Nat.zero_le _⟩
theorem lay_str (n : Nat) (x : Str) (h : (PyData.str x).canLay0 = true := by decide +kernel) : (PyData.str x).canLay0 = true ∧ (PyData.str x).depth ≤ n := ⟨h, Nat.zero_le _⟩
theorem lay_ints (ns : List Int) (n : Nat) : ∀ d ∈ ns.map PyData.int, d.canLay0 = true ∧ d.depth ≤ n := fun d hd => by
  obtain ⟨i, _, rfl⟩ := List.mem_map.mp hd
  exact lay_int n i
theorem lay_mono {d : PyData} {n m : Nat} (h : d.canLay0 = true ∧ d.depth ≤ n) (e : n ≤ m) : d.canLay0 = true ∧ d.depth ≤ m := ⟨h.1, Nat.le_trans h.2 e⟩
theorem lay_part (p : Part) : p.data.canLay0 = true ∧ p.data.depth ≤ 2 := by
  cases p with
  | wheel z ms =>
    refine lay_tup (n := 1) fun d hd => ?_
    rcases List.mem_cons.mp hd with rfl | hd
    · exact lay_str _ _
    rcases List.mem_cons.mp hd with rfl | hd
    · exact lay_int _ _
    rcases List.mem_cons.mp hd with rfl | hd
    · exact lay_tup (lay_ints ms 0)
    · cases hd
  | click => exact lay_mono (lay_tup (n := 0) fun d hd => by
      rcases List.mem_cons.mp hd with rfl | hd
      · exact lay_str _ _
      · cases hd) (by decide)
  | rocker => exact lay_mono (lay_tup (n := 0) fun d hd => by
      rcases List.mem_cons.mp hd with rfl | hd
      · exact lay_str _ _
      · cases hd) (by decide)
  | spring k => exact lay_mono (lay_tup (n := 0) fun d hd => by
      rcases List.mem_cons.mp hd with rfl | hd
      · exact lay_str _ _
      rcases List.mem_cons.mp hd with rfl | hd
      · exact lay_int _ _
      · cases hd) (by decide)
theorem lay_train (ps : List Part) : (PyData.list (ps.map Part.data)).canLay0 = true ∧ (PyData.list (ps.map Part.data)).depth ≤ 3 := lay_lst fun d hd => by
  obtain ⟨p, _, rfl⟩ := List.mem_map.mp hd
  exact lay_part p
theorem shaped_of {d : PyData} {n : Nat} (h : d.canLay0 = true ∧ d.depth ≤ n) (e : n ≤ 64) : SeqAt.shaped d = true := by
  unfold SeqAt.shaped
  rw [h.1, decide_eq_true (Nat.le_trans h.2 e)]
  rfl
theorem lay_told (xs : List Int) (y : Int) : (PyData.tuple [.tuple (xs.map PyData.int), .int y]).canLay0 = true ∧ (PyData.tuple [.tuple (xs.map PyData.int), .int y]).depth ≤ 2 := lay_tup (n := 1) fun d hd => by
  rcases List.mem_cons.mp hd with rfl | hd
  · exact lay_tup (lay_ints xs 0)
  rcases List.mem_cons.mp hd with rfl | hd
  · exact lay_int _ _
  · cases hd
theorem w_neSame {K : PySem.W.Frag} {H : Hp} {Q : VK} {x y : V} (d : PyData) {n : Nat} (hx : Dp K H x d) (hy : Dp K H y d) (h : d.canLay0 = true ∧ d.depth ≤ n) (e : n ≤ 64) (q : Q (.bl false) H) : rNeD K x y H Q :=
  ⟨d, d, hx, hy, shaped_of h e, shaped_of h e, by rw [SeqAt.eqv_refl d h.1]; exact q⟩
theorem tyx_T {K : PySem.W.Frag} {H : Hp} {a : Addr} {xs : List V} (h : SqT K H a xs) : TyX K H (.ref a) (.type "tuple") := by
  rcases h with (h | ⟨o, h⟩) | ⟨o, its, n, hk, hc, _⟩
  · exact .base (.tup h)
  · exact .fTuple h
  · exact .kTuple hk hc
theorem tyx_L {K : PySem.W.Frag} {H : Hp} {a : Addr} {xs : List V} (h : SqL K H a xs) : TyX K H (.ref a) (.type "list") := by
  rcases h with (h | ⟨o, h⟩) | ⟨o, its, n, hk, hc, _⟩
  · exact .base (.lst h)
  · exact .base (.frz h)
  · exact .kList hk hc
end Ct

namespace Ct
open PySem PySem.Spec PyProof.Rows L2
/-! zip of a list and a tuple: the list first -/
def ItM (K : PySem.W.Frag) (a b : Addr) : It where
  go := fun i H => ∃ (xs ys : List V) (x y : V), SqL K H a xs ∧ SqT K H b ys ∧ xs[i]? = some x ∧ ys[i]? = some y
  yld := fun i H v H' => ∃ T x y, v = .ref T ∧ H T = none ∧ H' = upd H T (.tup [x, y]) ∧ (∀ xs, SqL K H a xs → xs[i]? = some x) ∧ ∀ ys, SqT K H b ys → ys[i]? = some y
  stop := fun i H => ∃ xs ys : List V, SqL K H a xs ∧ SqT K H b ys ∧ min xs.length ys.length = i
abbrev ZSt (a b z TI TO i1 i2 : Addr) (i : Nat) (h : Heap) : Prop :=
  IsZip h z TI TO .none ∧ IsTupOf2 h TI (.ref i1) (.ref i2) ∧ (∃ a1 a2, IsTupOf2 h TO a1 a2) ∧ h.IsListIter i1 a i ∧ h.IsTupleIter i2 b i
theorem turnM {P : Program} {w : World} {K : PySem.W.Frag} {es : List Expr} {kk : Nat} {tp : Pos} {a b N : Nat} (ha : a < N) (hb : b < N) :
    Turn P w K (.Tuple es kk tp) (ItM K a b) [N + 4, N + 2, N + 3, N, N + 1] (N + 4) (ZSt a b (N + 4) (N + 2) (N + 3) N (N + 1)) := by
  have five : ∀ {c : Nat}, c ∈ [N + 4, N + 2, N + 3, N, N + 1] → N ≤ c := fun {c} hc => by
    simp only [List.mem_cons, List.not_mem_nil, or_false] at hc
    omega
  have sep : ZipSep2 (N + 4) (N + 2) (N + 3) N (N + 1) [N, a] [N + 1, b] := zip_sep2 (fun c hc => by rw [List.mem_singleton] at hc; rw [hc]; exact ha) fun c hc => by rw [List.mem_singleton] at hc; rw [hc]; exact hb
  have wrfp : ∀ {c : Nat}, c ∉ [N + 4, N + 2, N + 3, N, N + 1] → c ∉ [N + 4, N + 3, N, N + 1] := fun {c} hc hm => hc (by
    simp only [List.mem_cons, List.not_mem_nil, or_false] at hm ⊢
    omega)
  refine ⟨List.mem_cons_self, fun i h st c hc => ?_, fun i h h' st k => ?_, ?_, ?_, fun A i s Q E st h => wpAny_pyIter_zip st.1 h⟩
  · obtain ⟨s1, s2, ⟨u, v, s3⟩, ⟨o1, g1, _, d1⟩, ⟨o2, g2, _, d2⟩⟩ := st
    simp only [List.mem_cons, List.not_mem_nil, or_false] at hc
    rcases hc with e | e | e | e | e <;> subst e
    · exact ⟨_, s1, fun v q => nomatch q⟩
    · exact ⟨_, s2, fun v q => nomatch q⟩
    · exact ⟨_, s3, fun v q => nomatch q⟩
    · exact ⟨o1, g1, fun v q => by rw [d1] at q; cases q⟩
    · exact ⟨o2, g2, fun v q => by rw [d2] at q; cases q⟩
  · obtain ⟨s1, s2, ⟨u, v, s3⟩, s4, s5⟩ := st
    exact ⟨k _ (by simp) _ s1, k _ (by simp) _ s2, ⟨u, v, k _ (by simp) _ s3⟩, s4.at fun o q => k N (by simp) o q, s5.at fun o q => k (N + 1) (by simp) o q⟩
  · intro X eP ew eK calm i pins s σ H E I hf st hg
    subst eP ew eK
    obtain ⟨xs, ys, x, y, lx, ty, gx, gy⟩ := hg
    obtain ⟨us, rx, px, _⟩ := I.list lx
    obtain ⟨vs, ry, py, _⟩ := I.tuple ty
    obtain ⟨s1, s2, s3, s4, s5⟩ := st
    have hh : X.A.in1.handled = none := I.ok.hd calm
    have G := GoesN.zip2 (elts := es) (x1 := kk) (pos := tp) sep (Draws.list (prog := X.prog) (w := X.w) hh N a (Nat.ne_of_lt ha) us.toArray) (Draws.tuple (prog := X.prog) (w := X.w) hh (N + 1) b (Nat.ne_of_lt (Nat.lt_succ_of_lt hb)) vs.toArray)
    have lu := rx.length
    have lv := ry.length
    have ix : i < xs.length := (List.getElem?_eq_some_iff.mp gx).1
    have iy : i < ys.length := (List.getElem?_eq_some_iff.mp gy).1
    refine G.goes i s _ E (by rw [List.size_toArray, List.size_toArray]; omega) ⟨s1, s2, s3, ⟨s4, px.isList⟩, ⟨s5, py⟩⟩ fun v h' tk hY st' hk _ => ?_
    obtain ⟨T, u1, u2, rfl, hT, q1, q2, hTu⟩ := hY
    obtain ⟨w1, e1, r1⟩ := rx.get gx
    obtain ⟨w2, e2, r2⟩ := ry.get gy
    have f1 : w1 = u1 := Option.some.inj (e1.symm.trans (by simpa using q1))
    have f2 : w2 = u2 := Option.some.inj (e2.symm.trans (by simpa using q2))
    subst f1 f2
    have new : ObjOk X.prog X.w (upd H T (.tup [x, y])) h' T (.tup [x, y]) := ⟨len2 rfl, [w1, w2], .cons r1 (.cons r2 .nil), hTu⟩
    refine ⟨.ref T, _, I.turnedNew (t' := tk) (fun c o hc e => hk c o (wrfp hc) e) hf hT new, rfl, ⟨T, x, y, rfl, I.hok.fresh hT, rfl, fun l hl => by rw [I.list_inj hl lx]; exact gx, fun l hl => by rw [I.tuple_inj hl ty]; exact gy⟩, ⟨st'.1, st'.2.1, st'.2.2.1, st'.2.2.2.1.1, st'.2.2.2.2.1⟩, fun c hc => ?_⟩
    obtain ⟨o, g, _⟩ : ∃ o, s.heap.get? c = some o ∧ True := by
      obtain ⟨u, v, s3⟩ := s3
      obtain ⟨o1, g1, _⟩ := s4
      obtain ⟨o2, g2, _⟩ := s5
      simp only [List.mem_cons, List.not_mem_nil, or_false] at hc
      rcases hc with e | e | e | e | e <;> subst e
      · exact ⟨_, s1, trivial⟩
      · exact ⟨_, s2, trivial⟩
      · exact ⟨_, s3, trivial⟩
      · exact ⟨_, g1, trivial⟩
      · exact ⟨_, g2, trivial⟩
    rw [upd_ne (Nat.ne_of_lt (Nat.lt_of_lt_of_le (Heap.lt_size g) hT))]
    exact (hf c hc).1
  · intro X eP ew eK calm i pins s σ H E I hf st hg
    subst eP ew eK
    obtain ⟨xs, ys, lx, ty, hm⟩ := hg
    obtain ⟨us, rx, px, _⟩ := I.list lx
    obtain ⟨vs, ry, py, _⟩ := I.tuple ty
    obtain ⟨s1, s2, s3, s4, s5⟩ := st
    have hh : X.A.in1.handled = none := I.ok.hd calm
    have G := GoesN.zip2 (elts := es) (x1 := kk) (pos := tp) sep (Draws.list (prog := X.prog) (w := X.w) hh N a (Nat.ne_of_lt ha) us.toArray) (Draws.tuple (prog := X.prog) (w := X.w) hh (N + 1) b (Nat.ne_of_lt (Nat.lt_succ_of_lt hb)) vs.toArray)
    have lu := rx.length
    have lv := ry.length
    have hn : min us.toArray.size vs.toArray.size = i := by rw [List.size_toArray, List.size_toArray]; omega
    rw [hn] at G
    exact G.stops s _ E ⟨s1, s2, s3, ⟨s4, px.isList⟩, ⟨s5, py⟩⟩ fun h' tk hk _ => I.turnedL (t' := tk) (fun c o hc e => hk c o (wrfp hc) e) hf
def iM (K : PySem.W.Frag) (ta : TA) : TI := fun σ H R => ta σ H fun vs H1 => ∃ a b xs ys, vs = [.ref a, .ref b] ∧ SqL K H1 a xs ∧ SqT K H1 b ys ∧ R (ItM K a b) H1
theorem pi_zipM {X : Cx} {e e2 : Expr} {ta : TA} {p pos tp : Pos} {es : List Expr} {kk : Nat} (gl : Gl X "zip") (mz : X.mg "zip" = none) (pa : PA X [e, e2] ta)
    (se : starEach [e, e2] X.env = (false, eval e X.env) :: starEach [e2] X.env := by rfl) (bk : (backTo pos (starEach [e2] X.env)).any (·.1) = false := by rfl) : PI X (.Tuple es kk tp) (.Call (.Name "zip" p) [e, e2] [] pos) (iM X.K ta) := by
  refine ⟨fun pins s σ H R I h => Call_ (ld_blt I gl mz boot_zip (callWith_type1 (thn (pa.run pos pins s σ H _ I h) fun us s1 ⟨vs, H1, I1, r1, q1⟩ => ?_) se bk))⟩
  obtain ⟨a, b, xs, ys, rfl, lx, ty, q⟩ := q1
  cases r1 with
  | cons ra rr => cases rr with
    | cons rb rn =>
      cases rn
      cases ra
      cases rb
      obtain ⟨us, rx, px, _⟩ := I1.list lx
      obtain ⟨vs, ry, py, _⟩ := I1.tuple ty
      obtain ⟨ob, gb, _⟩ := id py
      refine zip_begins2 (begins_list a us.toArray) (begins_tuple b vs.toArray) px.isList py fun h' z1 z2 z3 g1 g2 _ hk => wpAny_pyIter_zip z1 ?_
      have I2 : Inv X pins σ H1 { s1 with heap := h' } := I1.kept (t' := s1.toks) hk
      refine ⟨_, _, _, _, H1, rfl, I2, turnM px.lt (Heap.lt_size gb), ⟨z1, z2, ⟨_, _, z3⟩, ⟨_, g1, rfl, rfl⟩, ⟨_, g2, rfl, rfl⟩⟩, fun c hc => ?_, q⟩
      have hle : s1.heap.objs.size ≤ c := by
        simp only [List.mem_cons, List.not_mem_nil, or_false] at hc
        rcases hc with e | e | e | e | e <;> subst e <;> first | exact Nat.le_add_right _ _ | exact Nat.le_refl _
      exact I1.fpOk hle (I1.hok.fresh hle)
section
variable {K : PySem.W.Frag} {H : Hp} {σ : L2.St} {D : Ends} {R : It → Hp → Prop}
def IM (K : PySem.W.Frag) (vs : List V) (H : Hp) (R : It → Hp → Prop) : Prop := iM K (fun _ H Q => Q vs H) [] H R
theorem w_im {ta : TA} (h : ta σ H fun vs H1 => IM K vs H1 R) : iM K ta σ H R := h
theorem w_IM {a b : Addr} {xs ys : List V} (h1 : SqL K H a xs) (h2 : SqT K H b ys) (q : R (ItM K a b) H) : IM K [.ref a, .ref b] H R := ⟨a, b, xs, ys, rfl, h1, h2, q⟩
theorem fb_zipM {a b : Addr} (xs ys : List V) (hl : xs.length = ys.length) {g : TG} {tb : TS} (Pv : Nat → L2.St → Hp → Prop) (h0 : Pv 0 σ H) (hq : ∀ i σ H, i ≤ xs.length → Pv i σ H → SqL K H a xs ∧ SqT K H b ys)
    (hs : ∀ i x y T σ H, xs[i]? = some x → ys[i]? = some y → Pv i σ H → H T = none → g (.ref T) σ (upd H T (.tup [x, y])) fun σ2 H2 => tb { D with nx := Pv (i + 1), ct := Pv (i + 1), bk := D.nx } σ2 H2) (hd : ∀ σ H, Pv xs.length σ H → D.nx σ H) : FB (ItM K a b) g tb D σ H := by
  refine ⟨fun i m σ H => m = xs.length - i ∧ i ≤ xs.length ∧ Pv i σ H, ⟨xs.length, rfl, Nat.zero_le _, h0⟩, ?_⟩
  rintro i m σ H ⟨rfl, hi, p⟩
  obtain ⟨q1, q2⟩ := hq i σ H hi p
  by_cases hlt : i < xs.length
  · refine .inr ⟨⟨xs, ys, _, _, q1, q2, List.getElem?_eq_getElem hlt, List.getElem?_eq_getElem (hl ▸ hlt)⟩, Pv (i + 1), fun σ' H' p' => ⟨xs.length - (i + 1), by omega, rfl, hlt, p'⟩, fun v H' y => ?_⟩
    obtain ⟨T, x1, x2, rfl, hT, rfl, f1, f2⟩ := y
    exact hs i x1 x2 T σ H (f1 _ q1) (f2 _ q2) p hT
  · exact .inl ⟨⟨xs, ys, q1, q2, by omega⟩, hd σ H (by rw [show xs.length = i by omega]; exact p)⟩
end
end Ct

namespace Ct
open PySem PySem.Spec PyProof.Rows L2
/-! pushes of one deed, reckoned at once -/
def cnt (ms : List Int) (r : Int) : Int := ((ms.filter fun m => decide (m ≤ r)).length : Int)
theorem cnt_nil (r : Int) : cnt [] r = 0 := rfl
theorem cnt_cons (m : Int) (ms : List Int) (r : Int) : cnt (m :: ms) r = (if m ≤ r then 1 else 0) + cnt ms r := by
  unfold cnt
  rw [List.filter_cons]
  by_cases h : m ≤ r
  · rw [if_pos h, if_pos (decide_eq_true h), List.length_cons]
    omega
  · rw [if_neg h, if_neg (by rw [decide_eq_false h]; exact Bool.false_ne_true)]
    omega
theorem cnt_all : ∀ {ms : List Int} {r : Int}, (∀ m ∈ ms, m ≤ r) → cnt ms r = ms.length
  | [], _, _ => rfl
  | m :: ms, r, h => by
    rw [cnt_cons, if_pos (h m List.mem_cons_self), cnt_all fun x hx => h x (List.mem_cons_of_mem _ hx), List.length_cons]
    omega
theorem cnt_zero : ∀ {ms : List Int} {r : Int}, (∀ m ∈ ms, r < m) → cnt ms r = 0
  | [], _, _ => rfl
  | m :: ms, r, h => by
    have h1 := h m List.mem_cons_self
    rw [cnt_cons, if_neg (by omega), cnt_zero fun x hx => h x (List.mem_cons_of_mem _ hx)]
    rfl
theorem cnt_split : ∀ (ms : List Int) (k : Nat) (r : Int), k ≤ ms.length → (∀ (j : Nat) (m : Int), j < k → ms[j]? = some m → m ≤ r) → (∀ (j : Nat) (m : Int), k ≤ j → ms[j]? = some m → r < m) → cnt ms r = k
  | ms, 0, r, _, _, h => cnt_zero fun m hm => by
    obtain ⟨j, hj, e⟩ := List.mem_iff_getElem.mp hm
    exact h j m (Nat.zero_le _) (by rw [List.getElem?_eq_getElem hj, e])
  | [], k + 1, r, hk, _, _ => absurd hk (by simp)
  | m :: ms, k + 1, r, hk, h1, h2 => by
    rw [cnt_cons, if_pos (h1 0 m (Nat.succ_pos k) rfl), cnt_split ms k r (by rw [List.length_cons] at hk; omega) (fun j x hj hx => h1 (j + 1) x (by omega) hx) fun j x hj hx => h2 (j + 1) x (by omega) hx]
    omega
theorem cnt_step : ∀ {ms : List Int} (r : Int), ms.Pairwise (· < ·) → cnt ms r = cnt ms (r - 1) + (if r ∈ ms then 1 else 0)
  | [], _, _ => rfl
  | m :: ms, r, h => by
    obtain ⟨h1, h2⟩ := List.pairwise_cons.mp h
    have ih := cnt_step r h2
    rw [cnt_cons, cnt_cons, ih]
    by_cases e : r = m
    · subst e
      have hn : r ∉ ms := fun z => by
        have := h1 r z
        omega
      rw [if_neg hn, if_pos List.mem_cons_self, if_pos (Int.le_refl _), if_neg (by omega)]
      omega
    · have hm : (r ∈ m :: ms) ↔ r ∈ ms := ⟨fun z => (List.mem_cons.mp z).resolve_left e, fun z => List.mem_cons_of_mem _ z⟩
      by_cases hr : r ∈ ms
      · rw [if_pos hr, if_pos (hm.mpr hr)]
        by_cases h3 : m ≤ r
        · rw [if_pos h3, if_pos (by omega)]
          omega
        · rw [if_neg h3, if_neg (by omega)]
          omega
      · rw [if_neg hr, if_neg (fun z => hr (hm.mp z))]
        by_cases h3 : m ≤ r
        · rw [if_pos h3, if_pos (by omega)]
          omega
        · rw [if_neg h3, if_neg (by omega)]
          omega
/-- marks up to a tooth, over all turns -/
def mah (z : Int) (ms : List Int) (y : Int) : Int := y / z * (ms.length : Int) + cnt ms (y % z)
theorem mah_step {z : Int} {ms : List Int} (hz : 1 ≤ z) (rs : Rise z ms) (y : Int) : mah z ms y = mah z ms (y - 1) + (if y % z ∈ ms then 1 else 0) := by
  unfold mah
  have e := Int.emod_add_mul_ediv y z
  have r0 := Int.emod_nonneg y (show z ≠ 0 by omega)
  have r1 := Int.emod_lt_of_pos y (show 0 < z by omega)
  by_cases h : y % z = 0
  · obtain ⟨e1, e2⟩ := (Int.ediv_emod_unique (a := y - 1) (b := z) (r := z - 1) (q := y / z - 1) (by omega)).mpr ⟨by rw [Int.mul_sub]; omega, by omega, by omega⟩
    rw [e1, e2, h, cnt_all (ms := ms) (r := z - 1) (fun m hm => by have := (rs.2 m hm).2; omega), cnt_step 0 rs.1, cnt_zero (ms := ms) (r := 0 - 1) (fun m hm => by have := (rs.2 m hm).1; omega), Int.sub_mul]
    omega
  · obtain ⟨e1, e2⟩ := (Int.ediv_emod_unique (a := y - 1) (b := z) (r := y % z - 1) (q := y / z) (by omega)).mpr ⟨by omega, by omega, by omega⟩
    rw [e1, e2, cnt_step (y % z) rs.1]
    omega
theorem mah_up {z : Int} {ms : List Int} (hz : 1 ≤ z) (rs : Rise z ms) (y : Int) : ∀ t : Nat, mah z ms y ≤ mah z ms (y + t)
  | 0 => by rw [show y + ((0 : Nat) : Int) = y by omega]; exact Int.le_refl _
  | t + 1 => by
    have h := mah_step hz rs (y + ((t + 1 : Nat) : Int))
    rw [show y + ((t + 1 : Nat) : Int) - 1 = y + t by omega] at h
    have ih := mah_up hz rs y t
    rw [h]
    split <;> omega
/-- so many pushes one way at a part: its place, and how many it gives -/
def pt (p : Part) (x w t : Int) : Int × Int := match p with
  | .wheel z ms => ((x + w * t) % z, if mah z ms (x + w * t) - mah z ms x < 0 then -(mah z ms (x + w * t) - mah z ms x) else mah z ms (x + w * t) - mah z ms x)
  | .click => (x, if w = 1 then t else 0)
  | .rocker => if t = 0 then (x, 0) else if w = -1 then (0, 0) else (1, 1 - x)
  | .spring k => if w = -1 then (if x - t > 0 then x - t else 0, 0) else ((x + t) % k, (x + t) / k)
theorem pt_zero {p : Part} {x w : Int} (ok : p.ok) (h0 : 0 ≤ x) (h1 : x < p.places) : pt p x w 0 = (x, 0) := by
  cases p with
  | wheel z ms =>
    have h2 : x < z := h1
    simp only [pt, Int.mul_zero, Int.add_zero, Int.emod_eq_of_lt h0 h2, Int.sub_self]
    rfl
  | click =>
    simp only [pt]
    split <;> rfl
  | rocker => rfl
  | spring k =>
    have h2 : x < k := h1
    simp only [pt]
    split
    · rw [show (if x - 0 > 0 then x - 0 else 0) = x by split <;> omega]
    · rw [Int.add_zero, Int.emod_eq_of_lt h0 h2, Int.ediv_eq_zero_of_lt h0 h2]
theorem pp_way (p : Part) (x w : Int) (h : Sign w) : (pp p x w).2 = 0 ∨ (pp p x w).2 = w := by
  cases p with
  | wheel z ms =>
    by_cases e : (if w = 1 then (x + w) % z else x) ∈ ms
    · exact .inr (if_pos e)
    · exact .inl (if_neg e)
  | click =>
    by_cases e : w = 1
    · exact .inr (by simp only [pp, if_pos e]; exact e.symm)
    · exact .inl (if_neg e)
  | rocker =>
    by_cases e : w = 1 ∧ x = 0
    · exact .inr (by simp only [pp, if_pos e]; exact e.1.symm)
    · exact .inl (if_neg e)
  | spring k =>
    by_cases e : w = 1
    · by_cases e2 : x = k - 1
      · exact .inr (by simp only [pp, if_pos e, if_pos e2]; exact e.symm)
      · exact .inl (by simp only [pp, if_pos e, if_neg e2])
    · exact .inl (by simp only [pp, if_neg e])
theorem neg_abs {d : Int} (h : 0 ≤ d) : (if d < 0 then -d else d) = d := if_neg (by omega)
theorem abs_neg {d : Int} (h : d ≤ 0) : (if d < 0 then -d else d) = -d := by
  split <;> omega
/-- one push more -/
theorem pt_step {p : Part} {x w : Int} (ok : p.ok) (h0 : 0 ≤ x) (h1 : x < p.places) (hw : Sign w) (t : Nat) :
    pt p x w ((t + 1 : Nat) : Int) = ((pp p (pt p x w t).1 w).1, (pt p x w t).2 + if (pp p (pt p x w t).1 w).2 = 0 then 0 else 1) := by
  cases p with
  | wheel z ms =>
    have hz : 1 ≤ z := ok.1
    have rs : Rise z ms := ok.2.2.1
    rcases hw with rfl | rfl
    · have u1 := mah_up hz rs x t
      have u2 := mah_up hz rs x (t + 1)
      have st := mah_step hz rs (x + ((t + 1 : Nat) : Int))
      rw [show x + ((t + 1 : Nat) : Int) - 1 = x + t by omega] at st
      simp only [pt, pp, Int.one_mul, if_true]
      rw [neg_abs (by omega), neg_abs (by omega)]
      have em : ((x + (t : Int)) % z + 1) % z = (x + ((t + 1 : Nat) : Int)) % z := by
        rw [Int.emod_add_emod]
        congr 1
        omega
      rw [em]
      by_cases hm : (x + ((t + 1 : Nat) : Int)) % z ∈ ms
      · rw [if_pos hm] at st ⊢
        rw [if_neg (by decide)]
        exact Prod.ext rfl (by show mah z ms _ - mah z ms x = mah z ms _ - mah z ms x + 1; omega)
      · rw [if_neg hm] at st ⊢
        rw [if_pos rfl]
        exact Prod.ext rfl (by show mah z ms _ - mah z ms x = mah z ms _ - mah z ms x + 0; omega)
    · have v1 := mah_up hz rs (x - t) t
      have v2 := mah_up hz rs (x - ((t + 1 : Nat) : Int)) (t + 1)
      have st := mah_step hz rs (x - t)
      rw [show x - t + t = x by omega] at v1
      rw [show x - ((t + 1 : Nat) : Int) + ((t + 1 : Nat) : Int) = x by omega] at v2
      simp only [pt, pp, show ∀ y : Int, x + -1 * y = x - y from fun y => by omega, if_neg (show ¬ (-1 : Int) = 1 by decide)]
      rw [abs_neg (by omega), abs_neg (by omega)]
      have em : ((x - (t : Int)) % z + -1) % z = (x - ((t + 1 : Nat) : Int)) % z := by
        rw [Int.emod_add_emod]
        congr 1
        omega
      rw [em]
      rw [show x - (t : Int) - 1 = x - ((t + 1 : Nat) : Int) by omega] at st
      by_cases hm : (x - (t : Int)) % z ∈ ms
      · rw [if_pos hm] at st ⊢
        rw [if_neg (by decide)]
        exact Prod.ext rfl (by show -(mah z ms _ - mah z ms x) = -(mah z ms _ - mah z ms x) + 1; omega)
      · rw [if_neg hm] at st ⊢
        rw [if_pos rfl]
        exact Prod.ext rfl (by show -(mah z ms _ - mah z ms x) = -(mah z ms _ - mah z ms x) + 0; omega)
  | click =>
    have h2 : x < 1 := h1
    have ex : x = 0 := by omega
    subst ex
    rcases hw with rfl | rfl
    · simp only [pt, pp, if_true]
      rw [if_neg (by decide)]
      exact Prod.ext rfl (by show ((t + 1 : Nat) : Int) = (t : Int) + 1; omega)
    · rfl
  | rocker =>
    have h2 : x < 2 := h1
    rcases hw with rfl | rfl
    · simp only [pt, pp, if_neg (show ¬ ((t + 1 : Nat) : Int) = 0 by omega), if_neg (show ¬ (1 : Int) = -1 by decide), if_true]
      by_cases ht : (t : Int) = 0
      · rw [if_pos ht]
        by_cases hx : x = 0
        · subst hx
          rfl
        · have hx1 : x = 1 := by omega
          subst hx1
          rfl
      · rw [if_neg ht]
        simp
    · simp only [pt, pp, if_neg (show ¬ ((t + 1 : Nat) : Int) = 0 by omega), if_true]
      by_cases ht : (t : Int) = 0
      · rw [if_pos ht]
        rfl
      · rw [if_neg ht]
        rfl
  | spring k =>
    have h2 : x < k := h1
    have hk : 1 ≤ k := ok.1
    rcases hw with rfl | rfl
    · simp only [pt, pp, if_neg (show ¬ (1 : Int) = -1 by decide), if_true]
      have e := Int.emod_add_mul_ediv (x + t) k
      have r0 := Int.emod_nonneg (x + t) (show k ≠ 0 by omega)
      have r1 := Int.emod_lt_of_pos (x + t) (show 0 < k by omega)
      by_cases hx : (x + (t : Int)) % k = k - 1
      · obtain ⟨e1, e2⟩ := (Int.ediv_emod_unique (a := x + ((t + 1 : Nat) : Int)) (b := k) (r := 0) (q := (x + t) / k + 1) (by omega)).mpr ⟨by rw [Int.mul_add]; omega, by omega, by omega⟩
        rw [if_pos hx, e1, e2]
        rfl
      · obtain ⟨e1, e2⟩ := (Int.ediv_emod_unique (a := x + ((t + 1 : Nat) : Int)) (b := k) (r := (x + t) % k + 1) (q := (x + t) / k) (by omega)).mpr ⟨by omega, by omega, by omega⟩
        rw [if_neg hx, e1, e2]
        exact Prod.ext rfl (by show (x + (t : Int)) / k = (x + (t : Int)) / k + 0; omega)
    · simp only [pt, pp, if_true, if_neg (show ¬ (-1 : Int) = 1 by decide)]
      refine Prod.ext ?_ rfl
      show (if x - ((t + 1 : Nat) : Int) > 0 then x - ((t + 1 : Nat) : Int) else 0) = (if (if x - (t : Int) > 0 then x - (t : Int) else 0) - 1 > 0 then (if x - (t : Int) > 0 then x - (t : Int) else 0) - 1 else 0)
      by_cases hx : x - (t : Int) > 0
      · rw [if_pos hx]
        split <;> split <;> omega
      · rw [if_neg hx]
        split <;> split <;> omega
theorem pt_nn {p : Part} {x w : Int} (ok : p.ok) (h0 : 0 ≤ x) (h1 : x < p.places) (hw : Sign w) : ∀ t : Nat, 0 ≤ (pt p x w t).2
  | 0 => by
    show 0 ≤ (pt p x w 0).2
    rw [pt_zero ok h0 h1]
    exact Int.le_refl _
  | t + 1 => by
    rw [pt_step ok h0 h1 hw t]
    have := pt_nn ok h0 h1 hw t
    show 0 ≤ (pt p x w t).2 + _
    split <;> omega
theorem pt_le {p : Part} {x w : Int} (ok : p.ok) (h0 : 0 ≤ x) (h1 : x < p.places) (hw : Sign w) : ∀ t : Nat, (pt p x w t).2 ≤ t
  | 0 => by
    show (pt p x w 0).2 ≤ 0
    rw [pt_zero ok h0 h1]
    exact Int.le_refl _
  | t + 1 => by
    rw [pt_step ok h0 h1 hw t]
    have := pt_le ok h0 h1 hw t
    show (pt p x w t).2 + _ ≤ _
    split <;> omega
theorem pp_place {p : Part} {x w : Int} (ok : p.ok) (h0 : 0 ≤ x) (h1 : x < p.places) (hw : Sign w) : 0 ≤ (pp p x w).1 ∧ (pp p x w).1 < p.places := by
  cases p with
  | wheel z ms =>
    have hz : 1 ≤ z := ok.1
    exact ⟨Int.emod_nonneg _ (by omega), Int.emod_lt_of_pos _ (by omega)⟩
  | click => exact ⟨Int.le_refl _, show (0 : Int) < 1 by decide⟩
  | rocker =>
    rcases hw with rfl | rfl
    · exact ⟨show (0 : Int) ≤ 1 by decide, show (1 : Int) < 2 by decide⟩
    · exact ⟨show (0 : Int) ≤ 0 by decide, show (0 : Int) < 2 by decide⟩
  | spring k =>
    have h2 : x < k := h1
    rcases hw with rfl | rfl
    · simp only [pp, if_true]
      by_cases e : x = k - 1
      · rw [if_pos e]
        exact ⟨Int.le_refl _, show (0 : Int) < k by omega⟩
      · rw [if_neg e]
        exact ⟨show 0 ≤ x + 1 by omega, show x + 1 < k by omega⟩
    · simp only [pp, if_neg (show ¬ (-1 : Int) = 1 by decide)]
      refine ⟨?_, ?_⟩
      · show 0 ≤ (if x - 1 > 0 then x - 1 else 0)
        split <;> omega
      · show (if x - 1 > 0 then x - 1 else 0) < k
        split <;> omega
theorem pt_place {p : Part} {x w : Int} (ok : p.ok) (h0 : 0 ≤ x) (h1 : x < p.places) (hw : Sign w) : ∀ t : Nat, 0 ≤ (pt p x w t).1 ∧ (pt p x w t).1 < p.places
  | 0 => by
    show 0 ≤ (pt p x w 0).1 ∧ (pt p x w 0).1 < p.places
    rw [pt_zero ok h0 h1]
    exact ⟨h0, h1⟩
  | t + 1 => by
    rw [pt_step ok h0 h1 hw t]
    obtain ⟨a, b⟩ := pt_place ok h0 h1 hw t
    exact pp_place ok a b hw
/-! along a train -/
def gen (f : Part → Int → Int → Int × Int) : List Part → List Int → Int → List Int × Int
  | p :: ps, x :: xs, a => ((f p x a).1 :: (gen f ps xs (f p x a).2).1, (gen f ps xs (f p x a).2).2)
  | _, xs, a => (xs, a)
def stF (f : Part → Int → Int → Int × Int) (ps : List Part) (s : List Int × Int) (n : Nat) : List Int × Int := match ps[n]?, s.1[n]? with
  | some p, some x => (s.1.set n (f p x s.2).1, (f p x s.2).2)
  | _, _ => s
def rnF (f : Part → Int → Int → Int × Int) (ps : List Part) (i : Nat) (s : List Int × Int) : Nat → List Int × Int
  | 0 => s
  | n + 1 => stF f ps (rnF f ps i s n) (i + n)
theorem stF_at {f : Part → Int → Int → Int × Int} {ps : List Part} {s : List Int × Int} {n : Nat} {p : Part} {x : Int} (hp : ps[n]? = some p) (hx : s.1[n]? = some x) : stF f ps s n = (s.1.set n (f p x s.2).1, (f p x s.2).2) := by
  unfold stF
  rw [hp, hx]
theorem rnF_first (f : Part → Int → Int → Int × Int) (ps : List Part) (i : Nat) (s : List Int × Int) : ∀ n, rnF f ps i s (n + 1) = rnF f ps (i + 1) (stF f ps s i) n
  | 0 => rfl
  | n + 1 => by
    show stF f ps (rnF f ps i s (n + 1)) (i + (n + 1)) = stF f ps (rnF f ps (i + 1) (stF f ps s i) n) (i + 1 + n)
    rw [rnF_first f ps i s n, show i + (n + 1) = i + 1 + n by omega]
theorem rnF_len (f : Part → Int → Int → Int × Int) (ps : List Part) (i : Nat) (s : List Int × Int) : ∀ n, (rnF f ps i s n).1.length = s.1.length
  | 0 => rfl
  | n + 1 => by
    show (stF f ps _ _).1.length = _
    rw [← rnF_len f ps i s n]
    unfold stF
    split
    · show (List.set _ _ _).length = _
      rw [List.length_set]
    · rfl
theorem rnF_ahead (f : Part → Int → Int → Int × Int) (ps : List Part) (i : Nat) (s : List Int × Int) : ∀ n m, i + n ≤ m → (rnF f ps i s n).1[m]? = s.1[m]?
  | 0, _, _ => rfl
  | n + 1, m, h => by
    rw [← rnF_ahead f ps i s n m (by omega)]
    show (stF f ps _ _).1[m]? = _
    unfold stF
    split
    · show (List.set _ _ _)[m]? = _
      rw [List.getElem?_set_ne (by omega)]
    · rfl
/-- places one by one, by number, or by going down the train -/
theorem rnF_gen (f : Part → Int → Int → Int × Int) (ps : List Part) : ∀ (n i : Nat) (xs : List Int) (a : Int), xs.length = ps.length → i + n = ps.length →
    rnF f ps i (xs, a) n = (xs.take i ++ (gen f (ps.drop i) (xs.drop i) a).1, (gen f (ps.drop i) (xs.drop i) a).2)
  | 0, i, xs, a, hl, hn => by
    have e1 : ps.drop i = [] := List.drop_of_length_le (by omega)
    have e2 : xs.drop i = [] := List.drop_of_length_le (by omega)
    rw [e1, e2]
    show (xs, a) = (xs.take i ++ [], a)
    rw [List.append_nil, List.take_of_length_le (by omega)]
  | n + 1, i, xs, a, hl, hn => by
    have hi : i < ps.length := by omega
    have hx : i < xs.length := by omega
    rw [rnF_first, stF_at (List.getElem?_eq_getElem hi) (List.getElem?_eq_getElem hx), rnF_gen f ps n (i + 1) _ _ (by rw [List.length_set]; exact hl) (by omega)]
    rw [List.drop_eq_getElem_cons hi, List.drop_eq_getElem_cons hx]
    show (List.take (i + 1) (xs.set i _) ++ (gen f _ (List.drop (i + 1) (xs.set i _)) _).1, _) = (xs.take i ++ ((f ps[i] xs[i] a).1 :: (gen f (ps.drop (i + 1)) (xs.drop (i + 1)) (f ps[i] xs[i] a).2).1), (gen f (ps.drop (i + 1)) (xs.drop (i + 1)) (f ps[i] xs[i] a).2).2)
    rw [List.drop_set_of_lt (by omega), show List.take (i + 1) (xs.set i (f ps[i] xs[i] a).1) = xs.take i ++ [(f ps[i] xs[i] a).1] by
      rw [List.take_set, List.take_add_one, List.getElem?_eq_getElem hx, List.set_append_right _ _ (by rw [List.length_take]; omega), List.length_take, show i - min i xs.length = 0 by omega]
      rfl, List.append_assoc]
    rfl
/-- a push that may be none -/
def ppz (p : Part) (x g : Int) : Int × Int := if g = 0 then (x, 0) else pp p x g
theorem stp_stF (ps : List Part) (s : List Int × Int) (n : Nat) : stp ps s n = stF ppz ps s n := by
  unfold stp stF
  split
  · rename_i h
    cases e1 : ps[n]? with
    | none => rfl
    | some p =>
      cases e2 : s.1[n]? with
      | none => rfl
      | some x =>
        obtain ⟨hn, hx⟩ := List.getElem?_eq_some_iff.mp e2
        show s = (s.1.set n (ppz p x s.2).1, (ppz p x s.2).2)
        unfold ppz
        rw [if_pos h]
        show s = (s.1.set n x, 0)
        rw [← hx, List.set_getElem_self, ← h]
  · rename_i h
    cases e1 : ps[n]? with
    | none => rfl
    | some p =>
      cases e2 : s.1[n]? with
      | none => rfl
      | some x =>
        show _ = (s.1.set n (ppz p x s.2).1, (ppz p x s.2).2)
        unfold ppz
        rw [if_neg h]
theorem runN_rnF (ps : List Part) (i : Nat) (s : List Int × Int) : ∀ n, runN ps i s n = rnF ppz ps i s n
  | 0 => rfl
  | n + 1 => by
    show stp ps _ _ = stF ppz ps _ _
    rw [stp_stF, runN_rnF ps i s n]
theorem run_gen {ps : List Part} {xs : List Int} {i : Nat} {w : Int} (hl : xs.length = ps.length) (hi : i ≤ ps.length) : Ct.run ps xs i w = (xs.take i ++ (gen ppz (ps.drop i) (xs.drop i) w).1, (gen ppz (ps.drop i) (xs.drop i) w).2) := by
  unfold Ct.run
  rw [runN_rnF, rnF_gen ppz ps _ _ _ _ hl (by omega)]
/-- pushes one by one -/
def itP (ps : List Part) (w : Int) : Nat → List Int → List Int × Int
  | 0, xs => (xs, 0)
  | t + 1, xs => ((gen ppz ps (itP ps w t xs).1 w).1, (itP ps w t xs).2 + (gen ppz ps (itP ps w t xs).1 w).2)
def ptw (w : Int) (p : Part) (x t : Int) : Int × Int := pt p x w t
theorem gen_ppz_zero : ∀ (ps : List Part) (xs : List Int), gen ppz ps xs 0 = (xs, 0)
  | [], _ => rfl
  | _ :: _, [] => rfl
  | p :: ps, x :: xs => by
    show ((ppz p x 0).1 :: (gen ppz ps xs (ppz p x 0).2).1, (gen ppz ps xs (ppz p x 0).2).2) = _
    rw [show ppz p x 0 = (x, 0) from rfl, gen_ppz_zero ps xs]
def StandL : List Part → List Int → Prop
  | [], [] => True
  | p :: ps, x :: xs => p.ok ∧ 0 ≤ x ∧ x < p.places ∧ StandL ps xs
  | _, _ => False
theorem itP_cons {p : Part} {x : Int} (ps : List Part) (xs : List Int) {w : Int} (ok : p.ok) (h0 : 0 ≤ x) (h1 : x < p.places) (hw : Sign w) : ∀ t : Nat,
    itP (p :: ps) w t (x :: xs) = ((pt p x w t).1 :: (itP ps w (pt p x w t).2.toNat xs).1, (itP ps w (pt p x w t).2.toNat xs).2)
  | 0 => by
    show (x :: xs, (0 : Int)) = ((pt p x w 0).1 :: (itP ps w (pt p x w 0).2.toNat xs).1, (itP ps w (pt p x w 0).2.toNat xs).2)
    rw [pt_zero ok h0 h1]
    rfl
  | t + 1 => by
    have w0 : w ≠ 0 := by rcases hw with rfl | rfl <;> decide
    have nn := pt_nn ok h0 h1 hw t
    show ((gen ppz (p :: ps) (itP (p :: ps) w t (x :: xs)).1 w).1, (itP (p :: ps) w t (x :: xs)).2 + (gen ppz (p :: ps) (itP (p :: ps) w t (x :: xs)).1 w).2) = _
    rw [itP_cons ps xs ok h0 h1 hw t, pt_step ok h0 h1 hw t]
    generalize hy : (pt p x w t).1 = y
    generalize hn : (pt p x w t).2 = n at nn
    show ((ppz p y w).1 :: (gen ppz ps (itP ps w n.toNat xs).1 (ppz p y w).2).1, (itP ps w n.toNat xs).2 + (gen ppz ps (itP ps w n.toNat xs).1 (ppz p y w).2).2) = _
    rw [show ppz p y w = pp p y w from if_neg w0]
    rcases pp_way p y w hw with e | e
    · rw [e, gen_ppz_zero, if_pos rfl]
      show ((pp p y w).1 :: (itP ps w n.toNat xs).1, (itP ps w n.toNat xs).2 + 0) = ((pp p y w).1 :: (itP ps w (n + 0).toNat xs).1, (itP ps w (n + 0).toNat xs).2)
      rw [Int.add_zero, Int.add_zero]
    · rw [e, if_neg w0]
      show ((pp p y w).1 :: (gen ppz ps (itP ps w n.toNat xs).1 w).1, (itP ps w n.toNat xs).2 + (gen ppz ps (itP ps w n.toNat xs).1 w).2) = ((pp p y w).1 :: (itP ps w (n + 1).toNat xs).1, (itP ps w (n + 1).toNat xs).2)
      rw [show (n + 1).toNat = n.toNat + 1 by omega]
      rfl
theorem itP_nil (w : Int) : ∀ (t : Nat), itP [] w t [] = ([], w * t)
  | 0 => by
    show (([] : List Int), (0 : Int)) = ([], w * ((0 : Nat) : Int))
    rw [show ((0 : Nat) : Int) = 0 from rfl, Int.mul_zero]
  | t + 1 => by
    show ((gen ppz [] (itP [] w t []).1 w).1, (itP [] w t []).2 + (gen ppz [] (itP [] w t []).1 w).2) = _
    rw [itP_nil w t]
    refine Prod.ext rfl ?_
    show w * t + w = w * ((t + 1 : Nat) : Int)
    rw [show ((t + 1 : Nat) : Int) = (t : Int) + 1 by omega, Int.mul_add, Int.mul_one]
/-- THE promise: reckoned at once is as pushed one by one -/
theorem itP_gen {w : Int} (hw : Sign w) : ∀ (ps : List Part) (xs : List Int) (t : Nat), StandL ps xs → itP ps w t xs = ((gen (ptw w) ps xs t).1, w * (gen (ptw w) ps xs t).2)
  | [], [], t, _ => itP_nil w t
  | p :: ps, x :: xs, t, ⟨ok, h0, h1, h⟩ => by
    rw [itP_cons ps xs ok h0 h1 hw t, itP_gen hw ps xs _ h]
    have nn := pt_nn ok h0 h1 hw t
    show _ = ((pt p x w t).1 :: (gen (ptw w) ps xs (pt p x w t).2).1, w * (gen (ptw w) ps xs (pt p x w t).2).2)
    rw [show (((pt p x w t).2.toNat : Nat) : Int) = (pt p x w t).2 by omega]
theorem gen_stand {w : Int} (hw : Sign w) : ∀ (ps : List Part) (xs : List Int) (t : Int), 0 ≤ t → StandL ps xs → StandL ps (gen (ptw w) ps xs t).1 ∧ 0 ≤ (gen (ptw w) ps xs t).2
  | [], [], t, ht, _ => ⟨trivial, ht⟩
  | p :: ps, x :: xs, t, ht, ⟨ok, h0, h1, h⟩ => by
    have e : ((t.toNat : Nat) : Int) = t := by omega
    have a := pt_place ok h0 h1 hw t.toNat
    have n := pt_nn ok h0 h1 hw t.toNat
    rw [e] at a n
    have ih := gen_stand hw ps xs (pt p x w t).2 n h
    exact ⟨⟨ok, a.1, a.2, ih.1⟩, ih.2⟩
theorem stand_drop : ∀ {ps : List Part} {xs : List Int} (i : Nat), StandL ps xs → StandL (ps.drop i) (xs.drop i)
  | [], [], i, _ => by rw [List.drop_nil, List.drop_nil]; trivial
  | p :: ps, x :: xs, 0, h => h
  | p :: ps, x :: xs, i + 1, ⟨_, _, _, h⟩ => stand_drop (ps := ps) (xs := xs) i h
theorem stand_join : ∀ {ps : List Part} {xs ys : List Int} (i : Nat), StandL ps xs → StandL (ps.drop i) ys → StandL ps (xs.take i ++ ys)
  | ps, xs, ys, 0, _, h => h
  | [], [], ys, i + 1, _, h => by
    rw [List.drop_nil] at h
    exact h
  | p :: ps, x :: xs, ys, i + 1, ⟨a, b, c, d⟩, h => ⟨a, b, c, stand_join (ps := ps) (xs := xs) i d h⟩
theorem StandL.len : ∀ {ps : List Part} {xs : List Int}, StandL ps xs → xs.length = ps.length
  | [], [], _ => rfl
  | p :: ps, x :: xs, ⟨_, _, _, h⟩ => by rw [List.length_cons, List.length_cons, StandL.len (ps := ps) (xs := xs) h]
theorem StandL.okp : ∀ {ps : List Part} {xs : List Int}, StandL ps xs → ∀ p ∈ ps, p.ok
  | [], [], _, p, hp => by cases hp
  | a :: ps, x :: xs, ⟨h, _, _, hr⟩, p, hp => by
    rcases List.mem_cons.mp hp with rfl | hp
    · exact h
    · exact StandL.okp (ps := ps) (xs := xs) hr p hp
theorem standL_of : ∀ {ps : List Part} {xs : List Int}, (∀ p ∈ ps, p.ok) → StandOk ps xs → StandL ps xs
  | [], [], _, _ => trivial
  | [], _ :: _, _, h => by have := h.1; simp at this
  | _ :: _, [], _, h => by have := h.1; simp at this
  | p :: ps, x :: xs, hp, h => by
    have a := h.2 0 p x rfl rfl
    exact ⟨hp p List.mem_cons_self, a.1, a.2, standL_of (fun q hq => hp q (List.mem_cons_of_mem _ hq)) ⟨by have := h.1; rw [List.length_cons, List.length_cons] at this; omega, fun i q y hq hy => h.2 (i + 1) q y hq hy⟩⟩
theorem StandL.ok : ∀ {ps : List Part} {xs : List Int}, StandL ps xs → StandOk ps xs
  | [], [], _ => ⟨rfl, fun i p x h _ => by simp at h⟩
  | p :: ps, x :: xs, ⟨_, a, b, h⟩ => by
    have ih := StandL.ok (ps := ps) (xs := xs) h
    refine ⟨by rw [List.length_cons, List.length_cons, ih.1], fun i q y hq hy => ?_⟩
    cases i with
    | zero =>
      cases Option.some.inj hq
      cases Option.some.inj hy
      exact ⟨a, b⟩
    | succ i => exact ih.2 i q y hq hy
/-! rows -/
structure Deed where
  i : Nat
  w : Int
  t : Nat
def Deed.ok (d : Deed) (n : Nat) : Prop := d.i < n ∧ Sign d.w
def Deed.data (d : Deed) : PyData := .tuple [.int d.i, .int d.w, .int d.t]
/-- one deed, at once -/
def deedL (ps : List Part) (xs : List Int) (d : Deed) : List Int × Int := (xs.take d.i ++ (gen (ptw d.w) (ps.drop d.i) (xs.drop d.i) d.t).1, d.w * (gen (ptw d.w) (ps.drop d.i) (xs.drop d.i) d.t).2)
def rowL (ps : List Part) : List Deed → List Int × Int → List Int × Int
  | [], s => s
  | d :: ds, s => rowL ps ds ((deedL ps s.1 d).1, s.2 + (deedL ps s.1 d).2)
theorem rowL_app (ps : List Part) : ∀ (ds es : List Deed) (s : List Int × Int), rowL ps (ds ++ es) s = rowL ps es (rowL ps ds s)
  | [], _, _ => rfl
  | d :: ds, es, s => rowL_app ps ds es _
theorem deedL_stand {ps : List Part} {xs : List Int} {d : Deed} (h : StandL ps xs) (hd : d.ok ps.length) : StandL ps (deedL ps xs d).1 :=
  stand_join d.i h (gen_stand hd.2 _ _ d.t (by omega) (stand_drop d.i h)).1
theorem rowL_stand {ps : List Part} : ∀ {ds : List Deed} {s : List Int × Int}, StandL ps s.1 → (∀ d ∈ ds, d.ok ps.length) → StandL ps (rowL ps ds s).1
  | [], _, h, _ => h
  | d :: ds, s, h, hd => rowL_stand (ds := ds) (deedL_stand h (hd d List.mem_cons_self)) fun e he => hd e (List.mem_cons_of_mem _ he)
/-- a deed, push by push: each push goes along the train from part i -/
def pushes (ps : List Part) (i : Nat) (w : Int) : Nat → List Int × Int → List Int × Int
  | 0, s => s
  | t + 1, s => ((Ct.run ps (pushes ps i w t s).1 i w).1, (pushes ps i w t s).2 + (Ct.run ps (pushes ps i w t s).1 i w).2)
theorem pushes_itP {ps : List Part} {xs : List Int} {i : Nat} {w : Int} (hl : xs.length = ps.length) (hi : i ≤ ps.length) (a : Int) : ∀ t, pushes ps i w t (xs, a) = (xs.take i ++ (itP (ps.drop i) w t (xs.drop i)).1, a + (itP (ps.drop i) w t (xs.drop i)).2) ∧ (itP (ps.drop i) w t (xs.drop i)).1.length = ps.length - i
  | 0 => by
    refine ⟨Prod.ext ?_ ?_, ?_⟩
    · show xs = xs.take i ++ xs.drop i
      rw [List.take_append_drop]
    · show a = a + 0
      omega
    · show (xs.drop i).length = _
      rw [List.length_drop, hl]
  | t + 1 => by
    obtain ⟨ih, il⟩ := pushes_itP hl hi a t
    have tl : (xs.take i).length = i := by rw [List.length_take]; omega
    have gl : ∀ (qs : List Part) (ys : List Int) (g : Int), (gen ppz qs ys g).1.length = ys.length := fun qs => by
      induction qs with
      | nil => intro ys g; rfl
      | cons q qs ih =>
        intro ys g
        cases ys with
        | nil => rfl
        | cons y ys =>
          show ((ppz q y g).1 :: (gen ppz qs ys (ppz q y g).2).1).length = _
          rw [List.length_cons, List.length_cons, ih]
    refine ⟨?_, ?_⟩
    · show ((Ct.run ps (pushes ps i w t (xs, a)).1 i w).1, (pushes ps i w t (xs, a)).2 + (Ct.run ps (pushes ps i w t (xs, a)).1 i w).2) = _
      rw [ih]
      rw [run_gen (by show (xs.take i ++ _).length = _; rw [List.length_append, tl, il]; omega) hi]
      show (List.take i (xs.take i ++ _) ++ (gen ppz (ps.drop i) (List.drop i (xs.take i ++ _)) w).1, a + _ + (gen ppz (ps.drop i) (List.drop i (xs.take i ++ _)) w).2) = _
      rw [List.take_left' tl, List.drop_left' tl]
      refine Prod.ext rfl ?_
      show a + (itP (ps.drop i) w t (xs.drop i)).2 + (gen ppz (ps.drop i) (itP (ps.drop i) w t (xs.drop i)).1 w).2 = a + ((itP (ps.drop i) w t (xs.drop i)).2 + (gen ppz (ps.drop i) (itP (ps.drop i) w t (xs.drop i)).1 w).2)
      omega
    · show (gen ppz (ps.drop i) (itP (ps.drop i) w t (xs.drop i)).1 w).1.length = _
      rw [gl, il]
theorem pushes_deed {ps : List Part} {xs : List Int} {d : Deed} (h : StandL ps xs) (hd : d.ok ps.length) (a : Int) : pushes ps d.i d.w d.t (xs, a) = ((deedL ps xs d).1, a + (deedL ps xs d).2) := by
  rw [(pushes_itP h.len (Nat.le_of_lt hd.1) a d.t).1, itP_gen hd.2 _ _ _ (stand_drop d.i h)]
  rfl
theorem pushes_stand {ps : List Part} {xs : List Int} {i : Nat} {w : Int} (h : StandL ps xs) (hi : i < ps.length) (hw : Sign w) (a : Int) (t : Nat) : StandL ps (pushes ps i w t (xs, a)).1 := by
  have := deedL_stand (d := ⟨i, w, t⟩) h ⟨hi, hw⟩
  rw [pushes_deed (d := ⟨i, w, t⟩) h ⟨hi, hw⟩ a]
  exact this
section
variable {K : PySem.W.Frag} {H : Hp}
theorem deed_inv {v : V} {d : Deed} (h : Dp K H v d.data) : ∃ a, v = .ref a ∧ SqT K H a [.int d.i, .int d.w, .int d.t] := by
  obtain ⟨a, vs, rfl, hs, ht⟩ := tup_inv h
  cases ht with
  | cons h1 t1 => cases h1; cases t1 with
    | cons h2 t2 => cases h2; cases t2 with
      | cons h3 t3 => cases h3; cases t3; exact ⟨a, rfl, hs⟩
theorem deed_dp {a : Addr} {d : Deed} (h : SqT K H a [.int d.i, .int d.w, .int d.t]) : Dp K H (.ref a) d.data := .tup h (.cons (.int _) (.cons (.int _) (.cons (.int _) .nil)))
theorem deeds_upd {l : Addr} {ws : List V} {o : HO} (hl : H l = some (.lst ws)) : ∀ {vs : List V} (ds : List Deed), DpAll K H vs (ds.map Deed.data) → DpAll K (upd H l o) vs (ds.map Deed.data)
  | _, [], .nil => .nil
  | _, d :: r, .cons h t => by
    obtain ⟨a, rfl, ha⟩ := deed_inv h
    exact .cons (deed_dp (sqT_upd ha hl)) (deeds_upd hl r t)
def RowAt (K : PySem.W.Frag) (H : Hp) (a : Addr) (ds : List Deed) : Prop := ∃ vs, SqL K H a vs ∧ DpAll K H vs (ds.map Deed.data)
theorem RowAt.same {H' : Hp} {a : Addr} {ds : List Deed} (e : Same H H') (h : RowAt K H a ds) : RowAt K H' a ds := by
  obtain ⟨vs, h1, h2⟩ := h
  exact ⟨vs, e.seq h1, dpAll_same e h2⟩
theorem deed_get {ds : List Deed} {vs : List V} (h2 : DpAll K H vs (ds.map Deed.data)) {i : Nat} {d : Deed} (e : ds[i]? = some d) : ∃ v, vs[i]? = some v ∧ Dp K H v d.data :=
  dpAll_get h2 (by rw [List.getElem?_map, e]; rfl)
end
theorem lay_deed (d : Deed) : d.data.canLay0 = true ∧ d.data.depth ≤ 1 := lay_tup (n := 0) (lay_ints [(d.i : Int), d.w, (d.t : Int)] 0)
theorem lay_row (ds : List Deed) : (PyData.list (ds.map Deed.data)).canLay0 = true ∧ (PyData.list (ds.map Deed.data)).depth ≤ 2 := lay_lst fun d hd => by
  obtain ⟨e, _, rfl⟩ := List.mem_map.mp hd
  exact lay_deed e
/-! what the checks look at -/
def isW : PyData → Bool
  | .int _ => true
  | _ => false
def risesD (last z : Int) : List PyData → Bool
  | [] => true
  | .int m :: r => if m ≤ last ∨ z ≤ m then false else risesD m z r
  | _ :: _ => false
def areM (d : PyData) (z : Int) : Bool := match d with
  | .tuple ds => risesD (-1) z ds
  | _ => false
def wheelT : List PyData → Bool
  | [.int z, m] => decide (1 ≤ z) && areM m z
  | _ => false
def springT : List PyData → Bool
  | [.int k] => decide (1 ≤ k)
  | _ => false
def isP : PyData → Bool
  | .tuple (h :: t) =>
    if PyData.eqv h (.str "wheel") = true then wheelT t
    else if PyData.eqv h (.str "spring") = true then springT t
    else PyData.eqv (.tuple (h :: t)) (.tuple [.str "click"]) || PyData.eqv (.tuple (h :: t)) (.tuple [.str "rocker"])
  | _ => false
theorem rises_of : ∀ {ms : List Int} {last z : Int}, ms.Pairwise (· < ·) → (∀ m ∈ ms, last < m ∧ m < z) → risesD last z (ms.map PyData.int) = true
  | [], _, _, _, _ => rfl
  | m :: ms, last, z, h, hm => by
    obtain ⟨h1, h2⟩ := List.pairwise_cons.mp h
    have hm1 := hm m List.mem_cons_self
    show (if m ≤ last ∨ z ≤ m then false else risesD m z (ms.map PyData.int)) = true
    rw [if_neg (by omega)]
    exact rises_of h2 fun x hx => ⟨h1 x hx, (hm x (List.mem_cons_of_mem _ hx)).2⟩
theorem isP_of {p : Part} (ok : p.ok) : isP p.data = true := by
  cases p with
  | wheel z ms =>
    simp only [isP, Part.data, wheelT, areM]
    rw [if_pos (by decide +kernel), decide_eq_true ok.1, rises_of ok.2.2.1.1 fun m hm => ?_]
    · rfl
    · have := ok.2.2.1.2 m hm
      omega
  | click => decide +kernel
  | rocker => decide +kernel
  | spring k =>
    simp only [isP, Part.data, springT]
    rw [if_neg (by decide +kernel), if_pos (by decide +kernel)]
    exact decide_eq_true ok.1
def isD (d : PyData) (n : Int) : Bool := match d with
  | .tuple [.int i, .int w, .int t] => decide (0 ≤ i) && decide (i < n) && (decide (w = 1) || decide (w = -1)) && decide (0 ≤ t)
  | _ => false
theorem dpAll_drop {K : PySem.W.Frag} {H : Hp} : ∀ {vs : List V} {ds : List PyData} (k : Nat), DpAll K H vs ds → DpAll K H (vs.drop k) (ds.drop k)
  | _, _, 0, h => h
  | _, _, _ + 1, .nil => .nil
  | _, _, k + 1, .cons _ t => dpAll_drop k t
theorem dpAll_take {K : PySem.W.Frag} {H : Hp} : ∀ {vs : List V} {ds : List PyData} (k : Nat), DpAll K H vs ds → DpAll K H (vs.take k) (ds.take k)
  | _, _, 0, _ => .nil
  | _, _, _ + 1, .nil => .nil
  | _, _, k + 1, .cons h t => .cons h (dpAll_take k t)
theorem dpAll_cut {K : PySem.W.Frag} {H : Hp} {vs : List V} {ds : List Deed} (lo hi : Option Int) (h : DpAll K H vs (ds.map Deed.data)) : ∃ es : List Deed, DpAll K H (cutV vs lo hi) (es.map Deed.data) ∧ ∀ d ∈ es, d ∈ ds := by
  refine ⟨(ds.drop (HT.sIx vs.length 0 lo)).take (HT.sIx vs.length vs.length hi - HT.sIx vs.length 0 lo), ?_, fun d hd => List.mem_of_mem_drop (List.mem_of_mem_take hd)⟩
  rw [List.map_take, List.map_drop]
  exact dpAll_take _ (dpAll_drop _ h)
/-! how often each mark is met -/
def wsum (z : Int) : List Int → Int → Int
  | [], _ => 0
  | m :: r, y => (y - m) / z + wsum z r y
theorem wsum_app (z y : Int) : ∀ (ms : List Int) (m : Int), wsum z (ms ++ [m]) y = wsum z ms y + (y - m) / z
  | [], m => by
    show (y - m) / z + 0 = 0 + (y - m) / z
    omega
  | a :: r, m => by
    show (y - a) / z + wsum z (r ++ [m]) y = (y - a) / z + wsum z r y + (y - m) / z
    rw [wsum_app z y r m]
    omega
theorem wsum_mah {z : Int} (hz : 1 ≤ z) (y : Int) : ∀ {ms : List Int}, (∀ m ∈ ms, 0 ≤ m ∧ m < z) → wsum z ms y = mah z ms y - ms.length
  | [], _ => by
    show (0 : Int) = y / z * ((0 : Nat) : Int) + 0 - ((0 : Nat) : Int)
    rw [show ((0 : Nat) : Int) = 0 from rfl, Int.mul_zero]
    rfl
  | m :: r, h => by
    have hm := h m List.mem_cons_self
    have ih := wsum_mah hz y (ms := r) fun x hx => h x (List.mem_cons_of_mem _ hx)
    have e := Int.emod_add_mul_ediv y z
    have r0 := Int.emod_nonneg y (show z ≠ 0 by omega)
    have r1 := Int.emod_lt_of_pos y (show 0 < z by omega)
    show (y - m) / z + wsum z r y = _
    rw [ih]
    unfold mah
    rw [cnt_cons, List.length_cons, show ((r.length + 1 : Nat) : Int) = (r.length : Int) + 1 by omega, Int.mul_add, Int.mul_one]
    by_cases hmr : m ≤ y % z
    · obtain ⟨e1, _⟩ := (Int.ediv_emod_unique (a := y - m) (b := z) (r := y % z - m) (q := y / z) (by omega)).mpr ⟨by omega, by omega, by omega⟩
      rw [e1, if_pos hmr]
      omega
    · obtain ⟨e1, _⟩ := (Int.ediv_emod_unique (a := y - m) (b := z) (r := y % z - m + z) (q := y / z - 1) (by omega)).mpr ⟨by rw [Int.mul_sub]; omega, by omega, by omega⟩
      rw [e1, if_neg hmr]
      omega
theorem wsum_up {z : Int} {ms : List Int} {x : Int} (ok : (Part.wheel z ms).ok) (t : Nat) : wsum z ms (x + t) - wsum z ms x = (pt (.wheel z ms) x 1 t).2 := by
  have rs : Rise z ms := ok.2.2.1
  have u := mah_up ok.1 rs x t
  rw [wsum_mah ok.1 _ rs.2, wsum_mah ok.1 _ rs.2]
  simp only [pt, Int.one_mul]
  rw [neg_abs (by omega)]
  omega
theorem wsum_down {z : Int} {ms : List Int} {x : Int} (ok : (Part.wheel z ms).ok) (t : Nat) : wsum z ms x - wsum z ms (x - t) = (pt (.wheel z ms) x (-1) t).2 := by
  have rs : Rise z ms := ok.2.2.1
  have u := mah_up ok.1 rs (x - t) t
  rw [show x - (t : Int) + t = x by omega] at u
  rw [wsum_mah ok.1 _ rs.2, wsum_mah ok.1 _ rs.2]
  simp only [pt, show x + -1 * (t : Int) = x - t by omega]
  rw [abs_neg (by omega)]
  omega
/-! a deed in two -/
theorem pushes_add (ps : List Part) (i : Nat) (w : Int) (a : Nat) (s : List Int × Int) : ∀ b, pushes ps i w (a + b) s = pushes ps i w b (pushes ps i w a s)
  | 0 => rfl
  | b + 1 => by
    show ((Ct.run ps (pushes ps i w (a + b) s).1 i w).1, (pushes ps i w (a + b) s).2 + (Ct.run ps (pushes ps i w (a + b) s).1 i w).2) = _
    rw [pushes_add ps i w a s b]
    rfl
theorem rowL_one {ps : List Part} {s : List Int × Int} {d : Deed} (h : StandL ps s.1) (hd : d.ok ps.length) : rowL ps [d] s = pushes ps d.i d.w d.t s := (pushes_deed h hd s.2).symm
def halves : List Deed → List Deed
  | [] => []
  | d :: r => ⟨d.i, d.w, d.t / 2⟩ :: ⟨d.i, d.w, d.t - d.t / 2⟩ :: halves r
theorem halves_app : ∀ (ds es : List Deed), halves (ds ++ es) = halves ds ++ halves es
  | [], _ => rfl
  | d :: r, es => by
    show _ :: _ :: halves (r ++ es) = _ :: _ :: (halves r ++ halves es)
    rw [halves_app r es]
theorem halves_ok {n : Nat} {b : Nat} : ∀ {ds : List Deed}, (∀ d ∈ ds, d.ok n ∧ d.t < b) → ∀ d ∈ halves ds, d.ok n ∧ d.t < b
  | [], _, d, hd => by cases hd
  | e :: r, h, d, hd => by
    have he := h e List.mem_cons_self
    rcases List.mem_cons.mp hd with rfl | hd
    · exact ⟨he.1, Nat.lt_of_le_of_lt (Nat.div_le_self _ _) he.2⟩
    rcases List.mem_cons.mp hd with rfl | hd
    · exact ⟨he.1, Nat.lt_of_le_of_lt (Nat.sub_le _ _) he.2⟩
    · exact halves_ok (fun d hd => h d (List.mem_cons_of_mem _ hd)) d hd
theorem rowL_halves {ps : List Part} : ∀ {ds : List Deed} {s : List Int × Int}, StandL ps s.1 → (∀ d ∈ ds, d.ok ps.length) → rowL ps (halves ds) s = rowL ps ds s
  | [], _, _, _ => rfl
  | d :: r, s, h, hd => by
    have hd0 := hd d List.mem_cons_self
    have k1 : Deed.ok ⟨d.i, d.w, d.t / 2⟩ ps.length := hd0
    have k2 : Deed.ok ⟨d.i, d.w, d.t - d.t / 2⟩ ps.length := hd0
    show rowL ps ([⟨d.i, d.w, d.t / 2⟩] ++ ([⟨d.i, d.w, d.t - d.t / 2⟩] ++ halves r)) s = rowL ps ([d] ++ r) s
    have h1 : StandL ps (rowL ps [⟨d.i, d.w, d.t / 2⟩] s).1 := rowL_stand h fun e he => by rw [List.mem_singleton] at he; rw [he]; exact k1
    have h2 : StandL ps (rowL ps [⟨d.i, d.w, d.t - d.t / 2⟩] (rowL ps [⟨d.i, d.w, d.t / 2⟩] s)).1 := rowL_stand h1 fun e he => by rw [List.mem_singleton] at he; rw [he]; exact k2
    rw [rowL_app, rowL_app, rowL_app, rowL_halves h2 fun e he => hd e (List.mem_cons_of_mem _ he)]
    rw [rowL_one h1 k2, rowL_one h k1, rowL_one h hd0, ← pushes_add, show d.t / 2 + (d.t - d.t / 2) = d.t by omega]
theorem run_deed {ps : List Part} {xs : List Int} {i : Nat} {w : Int} (h : StandL ps xs) (hi : i < ps.length) (hw : Sign w) : deedL ps xs ⟨i, w, 1⟩ = Ct.run ps xs i w := by
  have e : ((Ct.run ps xs i w).1, 0 + (Ct.run ps xs i w).2) = ((deedL ps xs ⟨i, w, 1⟩).1, 0 + (deedL ps xs ⟨i, w, 1⟩).2) := pushes_deed (d := ⟨i, w, 1⟩) h ⟨hi, hw⟩ 0
  obtain ⟨e1, e2⟩ := Prod.mk.inj e
  exact Prod.ext e1.symm (by omega)
theorem rowL_snoc (ps : List Part) (ds : List Deed) (d : Deed) (s : List Int × Int) : rowL ps (ds ++ [d]) s = ((deedL ps (rowL ps ds s).1 d).1, (rowL ps ds s).2 + (deedL ps (rowL ps ds s).1 d).2) := rowL_app ps ds [d] s
theorem told_dp {K : PySem.W.Frag} {H : Hp} {q u : Addr} {xs : List Int} {y : Int} (h : SqT K H q [.ref u, .int y]) (hu : SqT K H u (xs.map V.int)) : Dp K H (.ref q) (.tuple [.tuple (xs.map PyData.int), .int y]) :=
  .tup h (.cons (.tup hu (dpAll_ints xs)) (.cons (.int y) .nil))
end Ct

namespace Ct
open PySem PySem.Spec PyProof.Rows L2
/-! all stands of a train -/
theorem ip_mul {X : Cx} : PIp X .Mult (rI CMul fun i j => .int (i * j)) := iop_mul
def rowS (s : List Int) (k : Nat) : List (List Int) := (List.range k).map fun (x : Nat) => s ++ [(x : Int)]
def grow (ss : List (List Int)) (p : Part) : List (List Int) := ss.flatMap fun s => rowS s p.places.toNat
def allS (ps : List Part) : List (List Int) := ps.foldl grow [[]]
def tupD (s : List Int) : PyData := .tuple (s.map PyData.int)
theorem rowS_len (s : List Int) (k : Nat) : (rowS s k).length = k := by
  unfold rowS
  rw [List.length_map, List.length_range]
theorem rowS_succ (s : List Int) (k : Nat) : rowS s (k + 1) = rowS s k ++ [s ++ [(k : Int)]] := by
  unfold rowS
  rw [List.range_succ, List.map_append]
  rfl
theorem flat_len (k : Nat) : ∀ ss : List (List Int), (ss.flatMap fun s => rowS s k).length = ss.length * k
  | [] => by simp
  | s :: r => by
    rw [List.flatMap_cons, List.length_append, rowS_len, flat_len k r, List.length_cons, Nat.add_mul, Nat.one_mul]
    omega
theorem allS_snoc (ps : List Part) (p : Part) : allS (ps ++ [p]) = grow (allS ps) p := by
  unfold allS
  rw [List.foldl_append]
  rfl
theorem allS_take {ps : List Part} {n : Nat} {p : Part} (h : ps[n]? = some p) : allS (ps.take (n + 1)) = grow (allS (ps.take n)) p := by
  rw [List.take_add_one, h]
  exact allS_snoc _ _
theorem stands_take {ps : List Part} {n : Nat} {p : Part} (h : ps[n]? = some p) : stands (ps.take (n + 1)) = stands (ps.take n) * p.places := by
  rw [List.take_add_one, h]
  exact stands_app _ _
theorem allS_len {ps : List Part} (hok : ∀ p ∈ ps, p.ok) : ∀ n, n ≤ ps.length → ((allS (ps.take n)).length : Int) = stands (ps.take n)
  | 0, _ => rfl
  | n + 1, hn => by
    obtain ⟨p, hp⟩ : ∃ p, ps[n]? = some p := ⟨_, List.getElem?_eq_getElem (by omega)⟩
    have po := (hok p (List.mem_of_getElem? hp)).pos.1
    rw [allS_take hp, stands_take hp, ← allS_len hok n (by omega)]
    unfold grow
    rw [flat_len, Int.natCast_mul, Int.toNat_of_nonneg (by omega)]
theorem stands_le {ps : List Part} (hok : ∀ p ∈ ps, p.ok) : ∀ n, n ≤ ps.length → stands (ps.take (ps.length - n)) ≤ stands ps
  | 0, _ => by
    rw [Nat.sub_zero, List.take_length]
    exact Int.le_refl _
  | n + 1, hn => by
    have ih := stands_le hok n (by omega)
    obtain ⟨p, hp⟩ : ∃ p, ps[ps.length - (n + 1)]? = some p := ⟨_, List.getElem?_eq_getElem (by omega)⟩
    have po := (hok p (List.mem_of_getElem? hp)).pos.1
    have e := stands_take hp
    rw [show ps.length - (n + 1) + 1 = ps.length - n by omega] at e
    have sp := stands_pos (ps.take (ps.length - (n + 1))) fun q hq => hok q (List.mem_of_mem_take hq)
    rw [e] at ih
    have := Int.mul_le_mul_of_nonneg_left po (show 0 ≤ stands (ps.take (ps.length - (n + 1))) by omega)
    omega
theorem stands_le' {ps : List Part} (hok : ∀ p ∈ ps, p.ok) {n : Nat} (hn : n ≤ ps.length) : stands (ps.take n) ≤ stands ps := by
  have := stands_le hok (ps.length - n) (by omega)
  rw [show ps.length - (ps.length - n) = n by omega] at this
  exact this
theorem place_le {ps : List Part} (hok : ∀ p ∈ ps, p.ok) {n : Nat} {p : Part} (hp : ps[n]? = some p) : p.places ≤ stands ps := by
  have hn : n < ps.length := (List.getElem?_eq_some_iff.mp hp).1
  have po := (hok p (List.mem_of_getElem? hp)).pos.1
  have h3 := stands_le' hok (n := n + 1) hn
  have sp := stands_pos (ps.take n) fun q hq => hok q (List.mem_of_mem_take hq)
  rw [stands_take hp] at h3
  have := Int.mul_le_mul_of_nonneg_right sp (show 0 ≤ p.places by omega)
  omega
theorem fold_each {k : Nat} : ∀ (ps : List Part) (ss : List (List Int)), (∀ s ∈ ss, s.length = k) → ∀ s ∈ ps.foldl grow ss, s.length = k + ps.length
  | [], ss, h, s, hs => h s hs
  | p :: ps, ss, h, s, hs => by
    have := fold_each (k := k + 1) ps (grow ss p) (fun t ht => by
      obtain ⟨u, hu, hr⟩ := List.mem_flatMap.mp ht
      obtain ⟨x, _, rfl⟩ := List.mem_map.mp hr
      rw [List.length_append, h u hu]
      rfl) s hs
    rw [List.length_cons]
    omega
theorem allS_each (ps : List Part) (s : List Int) (h : s ∈ allS ps) : s.length = ps.length := by
  have := fold_each (k := 0) ps [[]] (fun t ht => by rw [List.mem_singleton] at ht; rw [ht]; rfl) s h
  omega
theorem grow_le {ps : List Part} (hok : ∀ p ∈ ps, p.ok) {n : Nat} {p : Part} (hp : ps[n]? = some p) {i : Nat} : (((allS (ps.take n)).take i).flatMap fun s => rowS s p.places.toNat).length ≤ (stands ps).toNat := by
  have hn : n < ps.length := (List.getElem?_eq_some_iff.mp hp).1
  have h1 : (((allS (ps.take n)).take i).flatMap fun s => rowS s p.places.toNat).length ≤ (grow (allS (ps.take n)) p).length := by
    unfold grow
    rw [flat_len, flat_len, List.length_take]
    exact Nat.mul_le_mul_right _ (Nat.min_le_right _ _)
  rw [← allS_take hp] at h1
  have h2 := allS_len hok (n + 1) hn
  have h3 := stands_le' hok (n := n + 1) hn
  omega
section
variable {K : PySem.W.Frag} {H : Hp}
theorem tupD_inv {v : V} {s : List Int} (h : Dp K H v (tupD s)) : ∃ a, v = .ref a ∧ SqT K H a (s.map V.int) := by
  obtain ⟨a, vs, rfl, hs, ht⟩ := tup_inv h
  cases dpAll_ints_inv s ht
  exact ⟨a, rfl, hs⟩
theorem tupD_dp {a : Addr} {s : List Int} (h : SqT K H a (s.map V.int)) : Dp K H (.ref a) (tupD s) := .tup h (dpAll_ints s)
theorem tups_upd {l : Addr} {ws : List V} {o : HO} (hl : H l = some (.lst ws)) : ∀ {vs : List V} (ss : List (List Int)), DpAll K H vs (ss.map tupD) → DpAll K (upd H l o) vs (ss.map tupD)
  | _, [], .nil => .nil
  | _, s :: r, .cons h t => by
    obtain ⟨a, rfl, ha⟩ := tupD_inv h
    exact .cons (tupD_dp (sqT_upd ha hl)) (tups_upd hl r t)
theorem tup_get {ss : List (List Int)} {vs : List V} (h2 : DpAll K H vs (ss.map tupD)) {i : Nat} {s : List Int} (e : ss[i]? = some s) : ∃ a, vs[i]? = some (.ref a) ∧ SqT K H a (s.map V.int) := by
  obtain ⟨v, hv, hd⟩ := dpAll_get h2 (d := tupD s) (by rw [List.getElem?_map, e]; rfl)
  obtain ⟨a, rfl, ha⟩ := tupD_inv hd
  exact ⟨a, hv, ha⟩
end
theorem lay_tupD (s : List Int) : (tupD s).canLay0 = true ∧ (tupD s).depth ≤ 1 := lay_tup (lay_ints s 0)
theorem lay_tups (ss : List (List Int)) : (PyData.list (ss.map tupD)).canLay0 = true ∧ (PyData.list (ss.map tupD)).depth ≤ 2 := lay_lst fun d hd => by
  obtain ⟨s, _, rfl⟩ := List.mem_map.mp hd
  exact lay_tupD s
theorem stands_rev : ∀ ps : List Part, stands ps.reverse = stands ps
  | [] => rfl
  | p :: r => by
    rw [List.reverse_cons, stands_app, stands_rev r]
    exact Int.mul_comm _ _
theorem dpAll_rev {K : PySem.W.Frag} {H : Hp} : ∀ {vs : List V} {ds : List PyData}, DpAll K H vs ds → DpAll K H vs.reverse ds.reverse
  | _, _, .nil => .nil
  | _, _, .cons h t => by
    rw [List.reverse_cons, List.reverse_cons]
    exact dpAll_app (dpAll_rev t) (.cons h .nil)
/-! two fors in one list -/
section
variable {K : PySem.W.Frag} {H : Hp} {σ : L2.St} {Q : VK}
def LB2 (J : It) (g : TG) (tt : TT) (wi1 : TI) (g1 : TG) (tt1 : TT) (te : TE) (vs vs1 : List Nat) (σ : L2.St) (H : Hp) (Q : VK) : Prop := tLc2 (fun _ H R => R J H) g tt wi1 g1 tt1 te vs vs1 σ H Q
theorem w_lc2 {wi wi1 : TI} {g g1 : TG} {tt tt1 : TT} {te : TE} {vs vs1 : List Nat} (h : wi σ H fun J H1 => LB2 J g tt wi1 g1 tt1 te vs vs1 σ H1 Q) : tLc2 wi g tt wi1 g1 tt1 te vs vs1 σ H Q := h
/-- the inner loop, from which Nx is reached -/
def IB (J : It) (g : TG) (tt : TT) (te : TE) (vs : List Nat) (D : Addr) (σ : L2.St) (H : Hp) (Nx : Hp → Prop) : Prop :=
  ∃ U : Nat → Nat → Hp → Prop, (∃ m, U 0 m H) ∧
    ∀ j k H, U j k H → (J.stop j H ∧ Nx H) ∨
      (J.go j H ∧ ∃ Z : Hp → Prop, (∀ H', Z H' → ∃ k', k' < k ∧ U (j + 1) k' H') ∧
        ∀ x H', J.yld j H x H' →
          g x (wipe σ vs) H' fun σ3 H5 => wipe σ3 vs = wipe σ vs ∧ tt σ3 H5 fun b H6 =>
            if b = true then te σ3 H6 fun y H7 => ∃ acc, H7 D = some (.lst acc) ∧ acc.length < sizeLine ∧ Z (upd H7 D (.lst (acc ++ [y]))) else Z H6)
theorem ib_range {lo : Int} {n : Nat} {g : TG} {tt : TT} {te : TE} {vs : List Nat} {D : Addr} {Nx : Hp → Prop} (Pi : Nat → Hp → Prop) (h0 : Pi 0 H)
    (hs : ∀ j H, j < n → Pi j H → g (.int (lo + j)) (wipe σ vs) H fun σ3 H5 => wipe σ3 vs = wipe σ vs ∧ tt σ3 H5 fun b H6 =>
      if b = true then te σ3 H6 fun y H7 => ∃ acc, H7 D = some (.lst acc) ∧ acc.length < sizeLine ∧ Pi (j + 1) (upd H7 D (.lst (acc ++ [y]))) else Pi (j + 1) H6) (hd : ∀ H, Pi n H → Nx H) : IB (Itr lo n) g tt te vs D σ H Nx := by
  refine ⟨fun j k H => k = n - j ∧ j ≤ n ∧ Pi j H, ⟨n, rfl, Nat.zero_le _, h0⟩, ?_⟩
  rintro j k H ⟨rfl, hj, p⟩
  by_cases hlt : j < n
  · refine .inr ⟨hlt, Pi (j + 1), fun H' p' => ⟨n - (j + 1), by omega, rfl, hlt, p'⟩, fun x H' y => ?_⟩
    obtain ⟨e1, e2⟩ := y
    subst e1 e2
    exact hs j _ hlt p
  · have e : j = n := by omega
    subst e
    exact .inl ⟨Nat.le_refl _, hd H p⟩
theorem lb2_list {a : Addr} (xs : List V) {wi1 : TI} {g g1 : TG} {tt tt1 : TT} {te : TE} {vs vs1 : List Nat} (Pv : Addr → Nat → Hp → Prop) (h0 : ∀ D, H D = none → Pv D 0 (upd H D (.lst []))) (hl : ∀ D, H D = none → ∀ i H1, i ≤ xs.length → Pv D i H1 → SqL K H1 a xs)
    (hs : ∀ D, H D = none → ∀ i x H1, xs[i]? = some x → Pv D i H1 → g x (wipe σ vs) H1 fun σ2 H2 => wipe σ2 vs = wipe σ vs ∧ tt σ2 H2 fun b H3 =>
      if b = true then wi1 σ2 H3 fun J1 H4 => IB J1 g1 tt1 te vs1 D σ2 H4 (Pv D (i + 1)) else Pv D (i + 1) H3) (hd : ∀ D, H D = none → ∀ H1, Pv D xs.length H1 → Q (.ref D) H1) : LB2 (Itl K a) g tt wi1 g1 tt1 te vs vs1 σ H Q := by
  intro D hD
  refine ⟨fun i m H1 => m = xs.length - i ∧ i ≤ xs.length ∧ Pv D i H1, ⟨xs.length, rfl, Nat.zero_le _, h0 D hD⟩, ?_⟩
  rintro i m H1 ⟨rfl, hi, p⟩
  have q := hl D hD i H1 hi p
  by_cases hlt : i < xs.length
  · refine .inr ⟨⟨xs, _, q, List.getElem?_eq_getElem hlt⟩, Pv D (i + 1), fun H' p' => ⟨xs.length - (i + 1), by omega, rfl, hlt, p'⟩, fun x H' y => ?_⟩
    obtain ⟨e, y⟩ := y
    subst e
    exact hs D hD i x _ (y xs q) p
  · have e : i = xs.length := by omega
    subst e
    exact .inl ⟨⟨xs, q, Nat.le_refl _⟩, hd D hD H1 p⟩
theorem w_star {te : TE} {t : TA} {QA : List V → Hp → Prop} (h : te σ H fun x H1 => ∃ p xs, x = V.ref p ∧ (SqT K H1 p xs ∨ SqL K H1 p xs) ∧ t σ H1 fun ys H2 => QA (xs ++ ys) H2) : StX.tStar K te t σ H QA := h
theorem lb_tup {a : Addr} (xs : List V) {g : TG} {tt : TT} {te : TE} {vs : List Nat} (Pv : Addr → Nat → Hp → Prop) (h0 : ∀ D, H D = none → Pv D 0 (upd H D (.lst []))) (hl : ∀ D, H D = none → ∀ i H1, i ≤ xs.length → Pv D i H1 → SqT K H1 a xs)
    (hs : ∀ D, H D = none → ∀ i x H1, xs[i]? = some x → Pv D i H1 → g x (wipe σ vs) H1 fun σ2 H2 => wipe σ2 vs = wipe σ vs ∧ tt σ2 H2 fun b H3 =>
      if b = true then te σ2 H3 fun y H4 => ∃ acc, H4 D = some (.lst acc) ∧ acc.length < sizeLine ∧ Pv D (i + 1) (upd H4 D (.lst (acc ++ [y]))) else Pv D (i + 1) H3) (hd : ∀ D, H D = none → ∀ H1, Pv D xs.length H1 → Q (.ref D) H1) : LB (Itt K a) g tt te vs σ H Q :=
  fun D hD => lc_tup (Pv D) (h0 D hD) (hl D hD) (hs D hD) (hd D hD)
theorem w_revL {te : TE} (h : te σ H fun x H1 => ∃ a xs, x = .ref a ∧ SqL K H1 a xs ∧ ∀ p, H1 p = none → Q (.ref p) (upd H1 p (.lst xs.reverse))) : tRevL K te σ H Q := h
end
end Ct
namespace Ct
open PySem PySem.Spec PyProof.Rows L2
theorem w_catA {K : PySem.W.Frag} {H : Hp} {Q : VK} {a b : Addr} {xs ys : List V} (ha : SqT K H a xs) (hb : SqT K H b ys) (l : xs.length + ys.length ≤ 1000) (q : ∀ u H', Same H H' → SqT K H' u (xs ++ ys) → Q (.ref u) H') : rCatA K (.ref a) (.ref b) H Q := by
  refine ⟨a, b, xs, ys, rfl, rfl, ha, hb, Nat.le_of_lt (small1000 l), fun hx => ?_, fun _ hy => ?_, fun _ _ p np => ?_⟩
  · refine q b H (Same.refl H) ?_
    rw [hx, List.nil_append]
    exact hb
  · refine q a H (Same.refl H) ?_
    rw [hy, List.append_nil]
    exact ha
  · exact q p _ (same_upd np) (.of upd_same)
end Ct
namespace Ct
open PySem PySem.Spec PyProof.Rows L2
theorem standL_app : ∀ {ps qs : List Part} {xs ys : List Int}, StandL ps xs → StandL qs ys → StandL (ps ++ qs) (xs ++ ys)
  | [], _, [], _, _, h => h
  | _ :: _, _, _ :: _, _, ⟨a, b, c, d⟩, h => ⟨a, b, c, standL_app d h⟩
end Ct
namespace Ct
open PySem PySem.Spec PyProof.Rows L2
/-! signs fed to a train -/
def isSg : PyData → Bool
  | .int i => decide (i ∈ [(1 : Int), -1, 0])
  | _ => false
theorem isSg_of {s : Int} (h : s = 0 ∨ Sign s) : isSg (.int s) = true := by
  rcases h with h | h | h <;> rw [h] <;> decide
theorem run_zero (ps : List Part) (xs : List Int) (i : Nat) : Ct.run ps xs i 0 = (xs, 0) := by
  unfold Ct.run
  have z := runN_zero (ps := ps) (i := i) (s := (xs, 0)) (n := 0) rfl (ps.length - i)
  rw [Nat.zero_add] at z
  exact z
theorem run_stand {ps : List Part} {xs : List Int} {i : Nat} {w : Int} (h : StandL ps xs) (hi : i < ps.length) (hw : w = 0 ∨ Sign w) : StandL ps (Ct.run ps xs i w).1 := by
  rcases hw with e | e
  · rw [e, run_zero]
    exact h
  · rw [← run_deed h hi e]
    exact deedL_stand h ⟨hi, e⟩
def fedS (ps : List Part) : List Int → List Int → List Int × List Int
  | xs, [] => (xs, [])
  | xs, s :: r => ((fedS ps (Ct.run ps xs 0 s).1 r).1, (Ct.run ps xs 0 s).2 :: (fedS ps (Ct.run ps xs 0 s).1 r).2)
theorem fedS_snoc (ps : List Part) (s : Int) : ∀ (ss : List Int) (xs : List Int), fedS ps xs (ss ++ [s]) = ((Ct.run ps (fedS ps xs ss).1 0 s).1, (fedS ps xs ss).2 ++ [(Ct.run ps (fedS ps xs ss).1 0 s).2])
  | [], xs => rfl
  | a :: r, xs => by
    rw [List.cons_append, fedS, fedS_snoc ps s r, fedS]
    rfl
theorem fedS_take {ps : List Part} {ss : List Int} {k : Nat} {s : Int} (xs : List Int) (h : ss[k]? = some s) : fedS ps xs (ss.take (k + 1)) = ((Ct.run ps (fedS ps xs (ss.take k)).1 0 s).1, (fedS ps xs (ss.take k)).2 ++ [(Ct.run ps (fedS ps xs (ss.take k)).1 0 s).2]) := by
  rw [← fedS_snoc, List.take_add_one, h]
  rfl
theorem fedS_stand {ps : List Part} (h1 : 1 ≤ ps.length) : ∀ {ss : List Int} {xs : List Int}, StandL ps xs → (∀ s ∈ ss, s = 0 ∨ Sign s) → StandL ps (fedS ps xs ss).1
  | [], _, h, _ => h
  | s :: r, _, h, hs => fedS_stand (ss := r) h1 (run_stand h h1 (hs s List.mem_cons_self)) fun t ht => hs t (List.mem_cons_of_mem s ht)
theorem fedS_len (ps : List Part) : ∀ (ss : List Int) (xs : List Int), (fedS ps xs ss).2.length = ss.length
  | [], _ => rfl
  | s :: r, xs => by
    rw [fedS, List.length_cons, List.length_cons, fedS_len ps r]
end Ct
namespace Ct
open PySem PySem.Spec PyProof.Rows L2
theorem fold_mem : ∀ (ps : List Part) (ss : List (List Int)) (xs : List Int), (∀ p ∈ ps, p.ok) → (xs ∈ ps.foldl grow ss ↔ ∃ s ∈ ss, ∃ ys, xs = s ++ ys ∧ StandL ps ys)
  | [], ss, xs, _ => by
    constructor
    · intro h
      exact ⟨xs, h, [], (List.append_nil xs).symm, trivial⟩
    · rintro ⟨s, hs, ys, rfl, hy⟩
      cases ys with
      | nil => rw [List.append_nil]; exact hs
      | cons _ _ => exact nomatch hy
  | p :: ps, ss, xs, ok => by
    have po := (ok p List.mem_cons_self).pos.1
    rw [List.foldl_cons, fold_mem ps (grow ss p) xs fun q hq => ok q (List.mem_cons_of_mem _ hq)]
    constructor
    · rintro ⟨s', hs', ys, rfl, hy⟩
      obtain ⟨s, hs, hin⟩ := List.mem_flatMap.mp hs'
      obtain ⟨k, hk, rfl⟩ := List.mem_map.mp hin
      rw [List.mem_range] at hk
      exact ⟨s, hs, (k : Int) :: ys, by rw [List.append_assoc]; rfl, ok p List.mem_cons_self, by omega, by omega, hy⟩
    · rintro ⟨s, hs, ys, rfl, hy⟩
      cases ys with
      | nil => exact nomatch hy
      | cons y ys =>
        obtain ⟨_, y0, y1, hy⟩ := hy
        refine ⟨s ++ [y], List.mem_flatMap.mpr ⟨s, hs, List.mem_map.mpr ⟨y.toNat, List.mem_range.mpr (by omega), by rw [Int.toNat_of_nonneg y0]⟩⟩, ys, by rw [List.append_assoc]; rfl, hy⟩
theorem allS_mem {ps : List Part} (ok : ∀ p ∈ ps, p.ok) (xs : List Int) : xs ∈ allS ps ↔ StandL ps xs := by
  rw [allS, fold_mem ps [[]] xs ok]
  constructor
  · rintro ⟨s, hs, ys, rfl, hy⟩
    rw [List.mem_singleton] at hs
    rw [hs]
    exact hy
  · intro h
    exact ⟨[], List.mem_singleton.mpr rfl, xs, rfl, h⟩
/-! one-way trains -/
def gvb : Part → Bool
  | .wheel _ ms => decide (0 < ms.length)
  | _ => false
theorem pp_back {p : Part} {x w : Int} (hw : Sign w) (h : (pp p x w).2 = -1) : w = -1 ∧ gvb p = true := by
  have e := pp_way p x w hw
  rw [h] at e
  have hw1 : w = -1 := by
    rcases e with e | e
    · exact absurd e (by decide)
    · exact e.symm
  refine ⟨hw1, ?_⟩
  subst hw1
  cases p with
  | wheel z ms =>
    have h : (if (if (-1 : Int) = 1 then (x + -1) % z else x) ∈ ms then (-1 : Int) else 0) = -1 := h
    by_cases e2 : (if (-1 : Int) = 1 then (x + -1) % z else x) ∈ ms
    · exact decide_eq_true (List.length_pos_of_mem e2)
    · rw [if_neg e2] at h
      exact absurd h (by decide)
  | click => exact absurd (show (if (-1 : Int) = 1 then (1 : Int) else 0) = -1 from h) (by decide)
  | rocker =>
    have h : (if (-1 : Int) = 1 ∧ x = 0 then (1 : Int) else 0) = -1 := h
    rw [if_neg (by intro z; exact absurd z.1 (by decide))] at h
    exact absurd h (by decide)
  | spring k => exact absurd (show (0 : Int) = -1 from h) (by decide)
/-- what is shown below nought comes through all parts -/
theorem gen_back : ∀ {ps : List Part} {xs : List Int} {w : Int}, w = 0 ∨ Sign w → xs.length = ps.length → (gen ppz ps xs w).2 = -1 → w = -1 ∧ ps.all gvb = true
  | [], [], w, _, _, h => ⟨h, rfl⟩
  | p :: ps, x :: xs, w, hw, hl, h => by
    have hl' : xs.length = ps.length := Nat.succ.inj hl
    have h' : (gen ppz ps xs (ppz p x w).2).2 = -1 := h
    have hz : (ppz p x w).2 = 0 ∨ Sign (ppz p x w).2 := by
      unfold ppz
      split
      · exact .inl rfl
      · rename_i e
        exact pp_sign p x w (hw.resolve_left e)
    obtain ⟨h1, h2⟩ := gen_back hz hl' h'
    have e : w ≠ 0 := fun z => by
      rw [show ppz p x w = (x, 0) from if_pos z] at h1
      exact absurd (show (0 : Int) = -1 from h1) (by decide)
    unfold ppz at h1
    rw [if_neg e] at h1
    obtain ⟨h3, h4⟩ := pp_back (hw.resolve_left e) h1
    exact ⟨h3, by rw [List.all_cons, h4, h2]; rfl⟩
/-- a stand at which each wheel stands at a mark -/
def atMarks : List Part → List Int
  | [] => []
  | .wheel _ (m :: _) :: r => m :: atMarks r
  | _ :: r => 0 :: atMarks r
theorem marks_back : ∀ {ps : List Part}, (∀ p ∈ ps, p.ok) → ps.all gvb = true → StandL ps (atMarks ps) ∧ (gen ppz ps (atMarks ps) (-1)).2 = -1
  | [], _, _ => ⟨trivial, rfl⟩
  | .wheel z (m :: ms) :: r, ok, h => by
    rw [List.all_cons, Bool.and_eq_true] at h
    have o := ok _ List.mem_cons_self
    obtain ⟨h1, h2⟩ := marks_back (fun p hp => ok p (List.mem_cons_of_mem _ hp)) h.2
    have hm := o.2.2.1.2 m List.mem_cons_self
    refine ⟨⟨o, hm.1, hm.2, h1⟩, ?_⟩
    show (gen ppz r (atMarks r) (ppz (.wheel z (m :: ms)) m (-1)).2).2 = -1
    rw [show (ppz (.wheel z (m :: ms)) m (-1)).2 = -1 from if_pos List.mem_cons_self]
    exact h2
  | .wheel z [] :: r, _, h => by
    rw [List.all_cons, Bool.and_eq_true] at h
    exact absurd (show false = true from h.1) (by decide)
  | .click :: r, _, h => by
    rw [List.all_cons, Bool.and_eq_true] at h
    exact absurd h.1 (by decide)
  | .rocker :: r, _, h => by
    rw [List.all_cons, Bool.and_eq_true] at h
    exact absurd h.1 (by decide)
  | .spring k :: r, _, h => by
    rw [List.all_cons, Bool.and_eq_true] at h
    exact absurd (show false = true from h.1) (by decide)
theorem run_back {ps : List Part} {xs : List Int} {w : Int} (hl : xs.length = ps.length) (hw : Sign w) (h : (Ct.run ps xs 0 w).2 = -1) : w = -1 ∧ ps.all gvb = true := by
  rw [run_gen hl (Nat.zero_le _)] at h
  exact gen_back (.inr hw) hl h
theorem run_marks {ps : List Part} (ok : ∀ p ∈ ps, p.ok) (h : ps.all gvb = true) : StandL ps (atMarks ps) ∧ (Ct.run ps (atMarks ps) 0 (-1)).2 = -1 := by
  obtain ⟨h1, h2⟩ := marks_back ok h
  refine ⟨h1, ?_⟩
  rw [run_gen h1.len (Nat.zero_le _)]
  exact h2
/-! worn teeth -/
def offMark (ms : List Int) (m : Int) : List Int := ms.filter fun k => !decide (k = m)
def wornP (ps : List Part) : Option (Nat × Int) → List Part
  | none => ps
  | some (i, m) => match ps[i]? with
    | some (.wheel z ms) => ps.set i (.wheel z (offMark ms m))
    | _ => ps
theorem offMark_ok {z : Int} {ms : List Int} {m : Int} (h : (Part.wheel z ms).ok) : (Part.wheel z (offMark ms m)).ok :=
  ⟨h.1, h.2.1, ⟨h.2.2.1.1.filter _, fun k hk => h.2.2.1.2 k (List.mem_filter.mp hk).1⟩, Nat.le_trans (List.length_filter_le _ _) h.2.2.2⟩
theorem wornP_ok {ps : List Part} (h : ∀ p ∈ ps, p.ok) (w : Option (Nat × Int)) : ∀ p ∈ wornP ps w, p.ok := by
  unfold wornP
  split
  · exact h
  · split
    · rename_i i m z ms e
      intro p hp
      rcases List.mem_or_eq_of_mem_set hp with hp | hp
      · exact h p hp
      · rw [hp]
        exact offMark_ok (h _ (List.mem_of_getElem? e))
    · exact h
theorem wornP_len (ps : List Part) (w : Option (Nat × Int)) : (wornP ps w).length = ps.length := by
  unfold wornP
  split
  · rfl
  · split
    · rw [List.length_set]
    · rfl
/-- a wear as it is handed in -/
def WearAt (K : PySem.W.Frag) (H : Hp) (v : V) : Option (Nat × Int) → Prop
  | none => v = .non
  | some (i, m) => ∃ g, v = .ref g ∧ SqT K H g [.int i, .int m]
end Ct
namespace Ct
open PySem PySem.Spec PyProof.Rows L2
theorem dpAll_set {K : PySem.W.Frag} {H : Hp} : ∀ {vs : List V} {ds : List PyData} {i : Nat} {v : V} {d : PyData}, DpAll K H vs ds → Dp K H v d → DpAll K H (vs.set i v) (ds.set i d)
  | _, _, _, _, _, .nil, _ => .nil
  | _, _, 0, _, _, .cons _ t, h => .cons h t
  | _, _, _ + 1, _, _, .cons a t, h => .cons a (dpAll_set t h)
theorem WearAt.same {K : PySem.W.Frag} {H H' : Hp} {v : V} {w : Option (Nat × Int)} (s : Same H H') (h : WearAt K H v w) : WearAt K H' v w := by
  cases w with
  | none => exact h
  | some im =>
    obtain ⟨g, e, hg⟩ := h
    exact ⟨g, e, Same.tup s hg⟩
end Ct
namespace Ct
open PySem PySem.Spec PyProof.Rows L2
/-! trains behind one another -/
theorem gen_app (f : Part → Int → Int → Int × Int) (qs : List Part) (ys : List Int) : ∀ (ps : List Part) (xs : List Int) (a : Int), xs.length = ps.length →
    gen f (ps ++ qs) (xs ++ ys) a = ((gen f ps xs a).1 ++ (gen f qs ys (gen f ps xs a).2).1, (gen f qs ys (gen f ps xs a).2).2)
  | [], [], _, _ => rfl
  | p :: ps, x :: xs, a, h => by
    have ih := gen_app f qs ys ps xs (f p x a).2 (Nat.succ.inj h)
    show ((f p x a).1 :: (gen f (ps ++ qs) (xs ++ ys) (f p x a).2).1, (gen f (ps ++ qs) (xs ++ ys) (f p x a).2).2) = _
    rw [ih]
    rfl
theorem run0 {ps : List Part} {xs : List Int} (w : Int) (hx : xs.length = ps.length) : Ct.run ps xs 0 w = gen ppz ps xs w := by
  rw [run_gen hx (Nat.zero_le _)]
  rfl
theorem run_len (ps : List Part) (xs : List Int) (w : Int) : (Ct.run ps xs 0 w).1.length = xs.length := runN_len ps 0 (xs, w) _
theorem run_app {ps qs : List Part} {xs ys : List Int} (w : Int) (hx : xs.length = ps.length) (hy : ys.length = qs.length) :
    Ct.run (ps ++ qs) (xs ++ ys) 0 w = ((Ct.run ps xs 0 w).1 ++ (Ct.run qs ys 0 (Ct.run ps xs 0 w).2).1, (Ct.run qs ys 0 (Ct.run ps xs 0 w).2).2) := by
  rw [run0 w (by rw [List.length_append, List.length_append, hx, hy]), gen_app ppz qs ys ps xs w hx, run0 w hx, run0 _ hy]
theorem run_sg {ps : List Part} {xs : List Int} {w : Int} (hw : w = 0 ∨ Sign w) : (Ct.run ps xs 0 w).2 = 0 ∨ Sign (Ct.run ps xs 0 w).2 := by
  rcases hw with e | e
  · rw [e, run_zero]
    exact .inl rfl
  · exact runN_sign ps 0 (xs, w) e _
theorem fedS_sg {ps : List Part} : ∀ {ss : List Int} {xs : List Int}, (∀ s ∈ ss, s = 0 ∨ Sign s) → ∀ s ∈ (fedS ps xs ss).2, s = 0 ∨ Sign s
  | [], _, _, _, h => by cases h
  | s :: r, xs, hs, t, h => by
    rcases List.mem_cons.mp h with h | h
    · rw [h]
      exact run_sg (hs s List.mem_cons_self)
    · exact fedS_sg (ss := r) (fun u hu => hs u (List.mem_cons_of_mem s hu)) t h
theorem fedS_len1 (ps : List Part) : ∀ (ss : List Int) (xs : List Int), (fedS ps xs ss).1.length = xs.length
  | [], _ => rfl
  | s :: r, xs => by rw [fedS, fedS_len1 ps r, run_len]
theorem fed_app {ps qs : List Part} : ∀ {ss : List Int} {xs ys : List Int}, xs.length = ps.length → ys.length = qs.length →
    fedS (ps ++ qs) (xs ++ ys) ss = ((fedS ps xs ss).1 ++ (fedS qs ys (fedS ps xs ss).2).1, (fedS qs ys (fedS ps xs ss).2).2)
  | [], _, _, _, _ => rfl
  | s :: r, xs, ys, hx, hy => by
    have ih := fed_app (ss := r) (xs := (Ct.run ps xs 0 s).1) (ys := (Ct.run qs ys 0 (Ct.run ps xs 0 s).2).1) (by rw [run_len, hx]) (by rw [run_len, hy])
    rw [fedS, run_app s hx hy, fedS]
    show ((fedS (ps ++ qs) ((Ct.run ps xs 0 s).1 ++ (Ct.run qs ys 0 (Ct.run ps xs 0 s).2).1) r).1, (Ct.run qs ys 0 (Ct.run ps xs 0 s).2).2 :: (fedS (ps ++ qs) ((Ct.run ps xs 0 s).1 ++ (Ct.run qs ys 0 (Ct.run ps xs 0 s).2).1) r).2) = _
    rw [ih]
    rfl
theorem gen_nought {w : Int} : ∀ {ps : List Part} {xs : List Int}, StandL ps xs → gen (ptw w) ps xs 0 = (xs, 0)
  | [], [], _ => rfl
  | p :: ps, x :: xs, h => by
    obtain ⟨ok, x0, x1, hr⟩ := h
    show ((ptw w p x 0).1 :: (gen (ptw w) ps xs (ptw w p x 0).2).1, (gen (ptw w) ps xs (ptw w p x 0).2).2) = _
    rw [show ptw w p x 0 = (x, 0) from pt_zero ok x0 x1, gen_nought hr]
theorem gen_upto {w : Int} (hw : Sign w) : ∀ {ps : List Part} {xs : List Int} {t : Int}, 0 ≤ t → StandL ps xs → 0 ≤ (gen (ptw w) ps xs t).2 ∧ (gen (ptw w) ps xs t).2 ≤ t
  | [], [], t, h, _ => ⟨h, Int.le_refl _⟩
  | p :: ps, x :: xs, t, h, hs => by
    obtain ⟨ok, x0, x1, hr⟩ := hs
    have e : ((t.toNat : Nat) : Int) = t := Int.toNat_of_nonneg h
    have h1 := pt_nn ok x0 x1 hw t.toNat
    have h2 := pt_le ok x0 x1 hw t.toNat
    rw [e] at h1 h2
    have ih := gen_upto (ps := ps) (xs := xs) (t := (ptw w p x t).2) hw h1 hr
    exact ⟨ih.1, Int.le_trans ih.2 h2⟩
/-- a deed at a part of the first train: what it gives comes to the second one -/
theorem deed_front {ps qs : List Part} {xs ys : List Int} {d : Deed} (hx : StandL ps xs) (hy : StandL qs ys) (hd : d.ok ps.length) {w' : Int} {t' : Nat} (hw' : w' = if (deedL ps xs d).2 < 0 then -1 else 1) (ht' : (t' : Int) = if (deedL ps xs d).2 < 0 then -(deedL ps xs d).2 else (deedL ps xs d).2) :
    t' ≤ d.t ∧ deedL (ps ++ qs) (xs ++ ys) d = ((deedL ps xs d).1 ++ (deedL qs ys ⟨0, w', t'⟩).1, (deedL qs ys ⟨0, w', t'⟩).2) := by
  have hl := hx.len
  have e1 : (xs ++ ys).take d.i = xs.take d.i := List.take_append_of_le_length (by have := hd.1; omega)
  have e2 : (xs ++ ys).drop d.i = xs.drop d.i ++ ys := List.drop_append_of_le_length (by have := hd.1; omega)
  have e3 : (ps ++ qs).drop d.i = ps.drop d.i ++ qs := List.drop_append_of_le_length (by have := hd.1; omega)
  have hg := gen_upto (t := (d.t : Int)) hd.2 (by omega) (stand_drop d.i hx)
  have ga := gen_app (ptw d.w) qs ys (ps.drop d.i) (xs.drop d.i) d.t (by rw [List.length_drop, List.length_drop, hl])
  unfold deedL at hw' ht' ⊢
  rw [e1, e2, e3, ga]
  generalize gen (ptw d.w) (ps.drop d.i) (xs.drop d.i) d.t = r at *
  have hw' : w' = if d.w * r.2 < 0 then -1 else 1 := hw'
  have ht' : (t' : Int) = if d.w * r.2 < 0 then -(d.w * r.2) else d.w * r.2 := ht'
  have et : (t' : Int) = r.2 := by
    rcases hd.2 with e | e <;> rw [e] at ht' <;> split at ht' <;> omega
  refine ⟨by omega, ?_⟩
  show (xs.take d.i ++ (r.1 ++ (gen (ptw d.w) qs ys r.2).1), d.w * (gen (ptw d.w) qs ys r.2).2) = ((xs.take d.i ++ r.1) ++ ([] ++ (gen (ptw w') qs ys (t' : Int)).1), w' * (gen (ptw w') qs ys (t' : Int)).2)
  rw [et, List.nil_append, List.append_assoc]
  by_cases h0 : r.2 = 0
  · rw [h0, gen_nought hy, gen_nought hy, Int.mul_zero, Int.mul_zero]
  · have ew : w' = d.w := by
      rcases hd.2 with e | e <;> rw [e] at hw' ⊢ <;> rw [hw'] <;> split <;> omega
    rw [ew]
theorem deed_behind {ps qs : List Part} {xs ys : List Int} {d : Deed} {j : Nat} (hx : xs.length = ps.length) (hi : d.i = ps.length + j) : deedL (ps ++ qs) (xs ++ ys) d = (xs ++ (deedL qs ys ⟨j, d.w, d.t⟩).1, (deedL qs ys ⟨j, d.w, d.t⟩).2) := by
  unfold deedL
  rw [hi]
  have e1 : (xs ++ ys).take (ps.length + j) = xs ++ ys.take j := by rw [← hx, List.take_length_add_append]
  have e2 : (xs ++ ys).drop (ps.length + j) = ys.drop j := by rw [← hx, List.drop_length_add_append]
  have e3 : (ps ++ qs).drop (ps.length + j) = qs.drop j := by rw [List.drop_length_add_append]
  rw [e1, e2, e3, List.append_assoc]
end Ct

namespace Ct
open PySem PySem.Spec PyProof.Rows L2
/-! a row done often -/
def itR (ps : List Part) (ds : List Deed) : Nat → List Int → List Int × Int
  | 0, xs => (xs, 0)
  | n + 1, xs => ((rowL ps ds ((itR ps ds n xs).1, 0)).1, (itR ps ds n xs).2 + (rowL ps ds ((itR ps ds n xs).1, 0)).2)
theorem itR_stand {ps : List Part} {ds : List Deed} {xs : List Int} (h : StandL ps xs) (hd : ∀ d ∈ ds, d.ok ps.length) : ∀ n, StandL ps (itR ps ds n xs).1
  | 0 => h
  | n + 1 => rowL_stand (s := ((itR ps ds n xs).1, 0)) (itR_stand h hd n) hd
theorem itR_round {ps : List Part} {ds : List Deed} {xs : List Int} {j k : Nat} (e : (itR ps ds j xs).1 = (itR ps ds k xs).1) : ∀ m, (itR ps ds (k + m) xs).1 = (itR ps ds (j + m) xs).1 ∧ (itR ps ds (k + m) xs).2 - (itR ps ds (j + m) xs).2 = (itR ps ds k xs).2 - (itR ps ds j xs).2
  | 0 => ⟨e.symm, rfl⟩
  | m + 1 => by
    obtain ⟨h1, h2⟩ := itR_round e m
    show (rowL ps ds ((itR ps ds (k + m) xs).1, 0)).1 = (rowL ps ds ((itR ps ds (j + m) xs).1, 0)).1 ∧ (itR ps ds (k + m) xs).2 + (rowL ps ds ((itR ps ds (k + m) xs).1, 0)).2 - ((itR ps ds (j + m) xs).2 + (rowL ps ds ((itR ps ds (j + m) xs).1, 0)).2) = _
    rw [h1]
    exact ⟨rfl, by omega⟩
theorem itR_rounds {ps : List Part} {ds : List Deed} {xs : List Int} {j k : Nat} (hjk : j ≤ k) (e : (itR ps ds j xs).1 = (itR ps ds k xs).1) (m : Nat) : ∀ r : Nat, itR ps ds (j + m + r * (k - j)) xs = ((itR ps ds (j + m) xs).1, (itR ps ds (j + m) xs).2 + (r : Int) * ((itR ps ds k xs).2 - (itR ps ds j xs).2))
  | 0 => by
    rw [Nat.zero_mul, Nat.add_zero, show ((0 : Nat) : Int) = 0 from rfl, Int.zero_mul, Int.add_zero]
  | r + 1 => by
    have ih := itR_rounds hjk e m r
    have hr := itR_round e (m + r * (k - j))
    rw [← Nat.add_assoc j m, ih] at hr
    rw [show j + m + (r + 1) * (k - j) = k + (m + r * (k - j)) by rw [Nat.add_mul, Nat.one_mul]; omega]
    refine Prod.ext hr.1 ?_
    have h2 : (itR ps ds (k + (m + r * (k - j))) xs).2 - ((itR ps ds (j + m) xs).2 + (r : Int) * ((itR ps ds k xs).2 - (itR ps ds j xs).2)) = (itR ps ds k xs).2 - (itR ps ds j xs).2 := hr.2
    show (itR ps ds (k + (m + r * (k - j))) xs).2 = (itR ps ds (j + m) xs).2 + ((r + 1 : Nat) : Int) * ((itR ps ds k xs).2 - (itR ps ds j xs).2)
    rw [show ((r + 1 : Nat) : Int) = (r : Int) + 1 by omega, Int.add_mul, Int.one_mul]
    omega
/-- the way round, reckoned -/
theorem itR_at {ps : List Part} {ds : List Deed} {xs : List Int} {j k n : Nat} (hjk : j < k) (hn : j ≤ n) (e : (itR ps ds j xs).1 = (itR ps ds k xs).1) :
    itR ps ds n xs = ((itR ps ds (j + (n - j) % (k - j)) xs).1, (itR ps ds (j + (n - j) % (k - j)) xs).2 + (((n - j) / (k - j) : Nat) : Int) * ((itR ps ds k xs).2 - (itR ps ds j xs).2)) := by
  have h := itR_rounds (Nat.le_of_lt hjk) e ((n - j) % (k - j)) ((n - j) / (k - j))
  rw [show j + (n - j) % (k - j) + (n - j) / (k - j) * (k - j) = n by
    have := Nat.mod_add_div (n - j) (k - j)
    rw [Nat.mul_comm (k - j)] at this
    omega] at h
  exact h
/-! no more unlike stands than there are -/
theorem filt_len {N : Nat} : ∀ {l : List Nat}, l.Nodup → (∀ x ∈ l, x < N + 1) → l.length ≤ (l.filter fun x => decide (x < N)).length + 1
  | [], _, _ => Nat.zero_le _
  | a :: r, hn, h => by
    obtain ⟨h1, h2⟩ := List.nodup_cons.mp hn
    by_cases ha : a < N
    · rw [List.filter_cons, if_pos (decide_eq_true ha), List.length_cons, List.length_cons]
      have := filt_len h2 fun x hx => h x (List.mem_cons_of_mem _ hx)
      omega
    · have ea : a = N := by
        have := h a List.mem_cons_self
        omega
      have : (r.filter fun x => decide (x < N)) = r := List.filter_eq_self.mpr fun x hx => decide_eq_true (by
        have h3 := h x (List.mem_cons_of_mem _ hx)
        have h4 : x ≠ N := fun z => h1 (by rw [ea, ← z]; exact hx)
        omega)
      rw [List.filter_cons, if_neg (by rw [decide_eq_false ha]; exact Bool.false_ne_true), this, List.length_cons]
      omega
theorem holes : ∀ (N : Nat) (l : List Nat), l.Nodup → (∀ x ∈ l, x < N) → l.length ≤ N
  | 0, [], _, _ => Nat.le_refl _
  | 0, a :: _, _, h => absurd (h a List.mem_cons_self) (Nat.not_lt_zero a)
  | N + 1, l, hn, h => by
    have h1 := filt_len hn h
    have h2 := holes N (l.filter fun x => decide (x < N)) (hn.filter _) fun x hx => of_decide_eq_true (List.mem_filter.mp hx).2
    omega
def code : List Part → List Int → Nat
  | _ :: ps, x :: xs => x.toNat * (stands ps).toNat + code ps xs
  | _, _ => 0
theorem code_lt : ∀ {ps : List Part} {xs : List Int}, StandL ps xs → code ps xs < (stands ps).toNat
  | [], [], _ => by decide
  | p :: ps, x :: xs, ⟨ok, h0, h1, h⟩ => by
    have ih := code_lt (ps := ps) (xs := xs) h
    have po := ok.pos.1
    show x.toNat * (stands ps).toNat + code ps xs < (p.places * stands ps).toNat
    have sp : 1 ≤ stands ps := stands_pos ps h.okp
    have e : (p.places * stands ps).toNat = p.places.toNat * (stands ps).toNat := by
      rw [Int.toNat_mul (by omega) (by omega)]
    rw [e]
    have hx : x.toNat + 1 ≤ p.places.toNat := by omega
    have := Nat.mul_le_mul_right (stands ps).toNat hx
    rw [Nat.add_mul, Nat.one_mul] at this
    omega
theorem code_inj : ∀ {ps : List Part} {xs ys : List Int}, StandL ps xs → StandL ps ys → code ps xs = code ps ys → xs = ys
  | [], [], [], _, _, _ => rfl
  | p :: ps, x :: xs, y :: ys, ⟨_, a0, _, ha⟩, ⟨_, b0, _, hb⟩, e => by
    have la := code_lt ha
    have lb := code_lt hb
    have e2 : x.toNat * (stands ps).toNat + code ps xs = y.toNat * (stands ps).toNat + code ps ys := e
    generalize (stands ps).toNat = N at *
    have d1 : (x.toNat * N + code ps xs) / N = x.toNat := by
      rw [Nat.mul_comm, Nat.mul_add_div (by omega), Nat.div_eq_of_lt la, Nat.add_zero]
    have d2 : (y.toNat * N + code ps ys) / N = y.toNat := by
      rw [Nat.mul_comm, Nat.mul_add_div (by omega), Nat.div_eq_of_lt lb, Nat.add_zero]
    rw [e2, d2] at d1
    have ex : x = y := by omega
    subst ex
    rw [code_inj ha hb (by omega)]
theorem few_stands {ps : List Part} {ds : List Deed} {xs : List Int} (h : StandL ps xs) (hd : ∀ d ∈ ds, d.ok ps.length) {k : Nat} (dist : ∀ i j, i < j → j < k → (itR ps ds i xs).1 ≠ (itR ps ds j xs).1) : k ≤ (stands ps).toNat := by
  have := holes (stands ps).toNat ((List.range k).map fun i => code ps (itR ps ds i xs).1) ?_ ?_
  · rw [List.length_map, List.length_range] at this
    exact this
  · rw [List.nodup_iff_pairwise_ne, List.pairwise_map]
    refine List.Pairwise.imp_of_mem (fun {a b} ha hb hab => ?_) (List.pairwise_lt_range (n := k))
    rw [List.mem_range] at ha hb
    exact fun z => dist a b hab hb (code_inj (itR_stand h hd a) (itR_stand h hd b) z)
  · intro x hx
    obtain ⟨i, _, rfl⟩ := List.mem_map.mp hx
    exact code_lt (itR_stand h hd i)
/-! how great a sum may be -/
theorem gen_le {w : Int} (hw : Sign w) : ∀ (ps : List Part) (xs : List Int) (t : Int), 0 ≤ t → StandL ps xs → (gen (ptw w) ps xs t).2 ≤ t
  | [], [], t, _, _ => Int.le_refl _
  | p :: ps, x :: xs, t, ht, ⟨ok, h0, h1, h⟩ => by
    have e : ((t.toNat : Nat) : Int) = t := by omega
    have a := pt_le ok h0 h1 hw t.toNat
    have n := pt_nn ok h0 h1 hw t.toNat
    rw [e] at a n
    exact Int.le_trans (gen_le hw ps xs (pt p x w t).2 n h) a
theorem deedL_sum {ps : List Part} {xs : List Int} {d : Deed} (h : StandL ps xs) (hd : d.ok ps.length) : -(d.t : Int) ≤ (deedL ps xs d).2 ∧ (deedL ps xs d).2 ≤ d.t := by
  have g1 := (gen_stand hd.2 _ _ (d.t : Int) (by omega) (stand_drop d.i h)).2
  have g2 := gen_le hd.2 _ _ (d.t : Int) (by omega) (stand_drop d.i h)
  show -(d.t : Int) ≤ d.w * (gen (ptw d.w) (ps.drop d.i) (xs.drop d.i) d.t).2 ∧ d.w * (gen (ptw d.w) (ps.drop d.i) (xs.drop d.i) d.t).2 ≤ d.t
  generalize (gen (ptw d.w) (ps.drop d.i) (xs.drop d.i) d.t).2 = g at *
  rcases hd.2 with e | e
  · rw [e, Int.one_mul]
    exact ⟨by omega, g2⟩
  · rw [e]
    exact ⟨by omega, by omega⟩
theorem rowL_sum {ps : List Part} : ∀ {ds : List Deed} {s : List Int × Int}, StandL ps s.1 → (∀ d ∈ ds, d.ok ps.length ∧ d.t < 2 ^ 200) → s.2 - ds.length * 2 ^ 200 ≤ (rowL ps ds s).2 ∧ (rowL ps ds s).2 ≤ s.2 + ds.length * 2 ^ 200
  | [], s, _, _ => by
    show s.2 - ((0 : Nat) : Int) * 2 ^ 200 ≤ s.2 ∧ s.2 ≤ s.2 + ((0 : Nat) : Int) * 2 ^ 200
    rw [show ((0 : Nat) : Int) = 0 from rfl, Int.zero_mul]
    omega
  | d :: ds, s, h, hd => by
    have d0 := hd d List.mem_cons_self
    have a := deedL_sum h d0.1
    have ih := rowL_sum (ds := ds) (s := ((deedL ps s.1 d).1, s.2 + (deedL ps s.1 d).2)) (deedL_stand h d0.1) fun e he => hd e (List.mem_cons_of_mem _ he)
    have i1 : s.2 + (deedL ps s.1 d).2 - (ds.length : Int) * 2 ^ 200 ≤ (rowL ps (d :: ds) s).2 := ih.1
    have i2 : (rowL ps (d :: ds) s).2 ≤ s.2 + (deedL ps s.1 d).2 + (ds.length : Int) * 2 ^ 200 := ih.2
    have dt := d0.2
    rw [List.length_cons, show ((ds.length + 1 : Nat) : Int) = (ds.length : Int) + 1 by omega, Int.add_mul, Int.one_mul]
    omega
theorem itR_sum {ps : List Part} {ds : List Deed} {xs : List Int} (h : StandL ps xs) (hd : ∀ d ∈ ds, d.ok ps.length ∧ d.t < 2 ^ 200) (hl : ds.length ≤ 1000) : ∀ n : Nat, -(n : Int) * 2 ^ 210 ≤ (itR ps ds n xs).2 ∧ (itR ps ds n xs).2 ≤ (n : Int) * 2 ^ 210
  | 0 => by
    show -((0 : Nat) : Int) * 2 ^ 210 ≤ 0 ∧ (0 : Int) ≤ ((0 : Nat) : Int) * 2 ^ 210
    decide
  | n + 1 => by
    have ih := itR_sum h hd hl n
    have r := rowL_sum (s := ((itR ps ds n xs).1, 0)) (itR_stand h (fun d hm => (hd d hm).1) n) hd
    have r1 : (0 : Int) - ds.length * 2 ^ 200 ≤ (rowL ps ds ((itR ps ds n xs).1, 0)).2 := r.1
    have r2 : (rowL ps ds ((itR ps ds n xs).1, 0)).2 ≤ 0 + ds.length * 2 ^ 200 := r.2
    show -((n + 1 : Nat) : Int) * 2 ^ 210 ≤ (itR ps ds n xs).2 + (rowL ps ds ((itR ps ds n xs).1, 0)).2 ∧ (itR ps ds n xs).2 + (rowL ps ds ((itR ps ds n xs).1, 0)).2 ≤ ((n + 1 : Nat) : Int) * 2 ^ 210
    rw [show ((n + 1 : Nat) : Int) = (n : Int) + 1 by omega]
    omega
theorem inl_inj : ∀ {xs ys : List Int}, xs.map (Sum.inl : Int → Key) = ys.map Sum.inl → xs = ys
  | [], [], _ => rfl
  | [], _ :: _, h => nomatch h
  | _ :: _, [], h => nomatch h
  | x :: xs, y :: ys, h => by
    injection h with h1 h2
    injection h1 with h3
    rw [h3, inl_inj h2]
theorem key_map (xs : List Int) : (xs.map (Sum.inl : Int → Key)).map kV = xs.map V.int := by
  rw [List.map_map]
  rfl
theorem units65 {k : Nat} {A : Around} (r : Room k A) : A.units + 65 < cLine := by
  have := r.un
  omega
theorem eqv_ints : ∀ (xs ys : List Int), PyData.eqvAll (xs.map PyData.int) (ys.map PyData.int) = decide (xs = ys)
  | [], [] => rfl
  | [], _ :: _ => rfl
  | _ :: _, [] => rfl
  | x :: xs, y :: ys => by
    rw [List.map_cons, List.map_cons, PyData.eqvAll, eqv_ints xs ys, PyData.eqv]
    by_cases e : x = y
    · subst e
      by_cases e2 : xs = ys
      · subst e2
        simp
      · rw [decide_eq_false e2, decide_eq_false (fun z => e2 (List.cons.inj z).2), Bool.and_false]
    · rw [decide_eq_false (fun z => e (List.cons.inj z).1), show (x == y) = false from beq_eq_false_iff_ne.mpr e, Bool.false_and]
theorem eqv_tupD (xs ys : List Int) : PyData.eqv (tupD xs) (tupD ys) = decide (xs = ys) := by
  unfold tupD
  rw [PyData.eqv]
  exact eqv_ints xs ys
theorem itR_one {ps : List Part} {xs : List Int} {i : Nat} {w : Int} (h : StandL ps xs) (hi : i < ps.length) (hw : Sign w) : ∀ n, itR ps [⟨i, w, 1⟩] n xs = pushes ps i w n (xs, 0)
  | 0 => rfl
  | n + 1 => by
    have ih := itR_one h hi hw n
    have hs : StandL ps (pushes ps i w n (xs, 0)).1 := pushes_stand h hi hw 0 n
    have e : rowL ps [⟨i, w, 1⟩] ((pushes ps i w n (xs, 0)).1, 0) = pushes ps i w 1 ((pushes ps i w n (xs, 0)).1, 0) := rowL_one (s := ((pushes ps i w n (xs, 0)).1, 0)) (d := ⟨i, w, 1⟩) hs ⟨hi, hw⟩
    show ((rowL ps [⟨i, w, 1⟩] ((itR ps [⟨i, w, 1⟩] n xs).1, 0)).1, (itR ps [⟨i, w, 1⟩] n xs).2 + (rowL ps [⟨i, w, 1⟩] ((itR ps [⟨i, w, 1⟩] n xs).1, 0)).2) = _
    rw [ih, e]
    refine Prod.ext rfl ?_
    show (pushes ps i w n (xs, 0)).2 + (0 + (Ct.run ps (pushes ps i w n (xs, 0)).1 i w).2) = (pushes ps i w n (xs, 0)).2 + (Ct.run ps (pushes ps i w n (xs, 0)).1 i w).2
    omega
theorem itR_deed {ps : List Part} {xs : List Int} {i : Nat} {w : Int} (h : StandL ps xs) (hi : i < ps.length) (hw : Sign w) (n : Nat) : itR ps [⟨i, w, 1⟩] n xs = rowL ps [⟨i, w, n⟩] (xs, 0) := by
  rw [itR_one h hi hw n, rowL_one (s := (xs, 0)) (d := ⟨i, w, n⟩) h ⟨hi, hw⟩]
theorem itR_add {ps : List Part} {ds : List Deed} (a : Nat) (xs : List Int) : ∀ b, itR ps ds (a + b) xs = ((itR ps ds b (itR ps ds a xs).1).1, (itR ps ds a xs).2 + (itR ps ds b (itR ps ds a xs).1).2)
  | 0 => Prod.ext rfl (Int.add_zero _).symm
  | b + 1 => by
    have ih := itR_add (ps := ps) (ds := ds) a xs b
    show ((rowL ps ds ((itR ps ds (a + b) xs).1, 0)).1, (itR ps ds (a + b) xs).2 + (rowL ps ds ((itR ps ds (a + b) xs).1, 0)).2) = _
    rw [ih]
    refine Prod.ext rfl ?_
    show (itR ps ds a xs).2 + (itR ps ds b (itR ps ds a xs).1).2 + _ = (itR ps ds a xs).2 + ((itR ps ds b (itR ps ds a xs).1).2 + _)
    rw [Int.add_assoc]
section
variable {K : PySem.W.Frag} {H : Hp} {σ : L2.St} {Q : VK} {D : Ends}
theorem w_dnewT (h : ∀ p, H p = none → Q (.ref p) (upd H p (.dT []))) : tDNewT σ H Q := h
theorem w_dnotin {ty td : TE} (h : ty σ H fun y H1 => td σ H1 fun x H2 => ∃ a o, x = .ref a ∧ DGet H2 a y o ∧ Q (.bl (!o.isSome)) H2) : tDNotIn ty td σ H Q := h
theorem w_dget {td ty : TE} (h : td σ H fun x H1 => ty σ H1 fun y H2 => ∃ a v, x = .ref a ∧ DGet H2 a y (some v) ∧ Q v H2) : tDGet td ty σ H Q := h
theorem w_dput {td ty tv : TE} (h : tv σ H fun v H1 => td σ H1 fun x H2 => ty σ H2 fun y H3 => ∃ a H4, x = .ref a ∧ DPut H3 a y v H4 ∧ D.nx σ H4) : sDPut td ty tv D σ H := h
end
end Ct

/-! what stays but for one object -/
namespace Ct
open PySem PySem.Spec PyProof.Rows L2
/-- all that was tracked stays, but for what lies at k -/
def But (k : Addr) (H H' : Hp) : Prop := ∀ a o, a ≠ k → H a = some o → H' a = some o
theorem but_same {k : Addr} {H H' : Hp} (s : Same H H') : But k H H' := fun a o _ h => s a o h
theorem But.refl {k : Addr} {H : Hp} : But k H H := fun _ _ _ h => h
theorem But.trans {k : Addr} {H H1 H2 : Hp} (a : But k H H1) (b : But k H1 H2) : But k H H2 := fun c o n h => b c o n (a c o n h)
theorem but_upd {k : Addr} {H : Hp} {o : HO} : But k H (upd H k o) := fun c u n h => by rw [upd_ne n]; exact h
theorem But.same {k : Addr} {H H1 H2 : Hp} (hk : H k = none) (s : Same H H1) (b : But k H1 H2) : Same H H2 := fun c o h => b c o (fun e => by rw [e, hk] at h; cases h) (s c o h)
def Ext (H : Hp) (k : Addr) : Prop := ∃ f, H k = some (.ext f)
theorem but_tup {K : PySem.W.Frag} {k a : Addr} {H H' : Hp} {xs : List V} (x : Ext H k) (e : But k H H') (h : SqT K H a xs) : SqT K H' a xs := by
  obtain ⟨f, x⟩ := x
  rcases h with (h | ⟨o, h⟩) | h
  · exact .inl (.inl (e _ _ (fun z => by rw [z, x] at h; cases h) h))
  · exact .inl (.inr ⟨o, e _ _ (fun z => by rw [z, x] at h; cases h) h⟩)
  · exact .inr h
theorem but_seq {K : PySem.W.Frag} {k a : Addr} {H H' : Hp} {xs : List V} (x : Ext H k) (e : But k H H') (h : SqL K H a xs) : SqL K H' a xs := by
  obtain ⟨f, x⟩ := x
  rcases h with (h | ⟨o, h⟩) | h
  · exact .inl (.inl (e _ _ (fun z => by rw [z, x] at h; cases h) h))
  · exact .inl (.inr ⟨o, e _ _ (fun z => by rw [z, x] at h; cases h) h⟩)
  · exact .inr h
mutual
theorem dp_but {K : PySem.W.Frag} {H H' : Hp} {k : Addr} (x : Ext H k) (e : But k H H') : ∀ {v : V} {d : PyData}, Dp K H v d → Dp K H' v d
  | _, _, .non => .non
  | _, _, .bl b => .bl b
  | _, _, .int i => .int i
  | _, _, .str x => .str x
  | _, _, .lst h t => .lst (but_seq x e h) (dpAll_but x e t)
  | _, _, .tup h t => .tup (but_tup x e h) (dpAll_but x e t)
theorem dpAll_but {K : PySem.W.Frag} {H H' : Hp} {k : Addr} (x : Ext H k) (e : But k H H') : ∀ {vs : List V} {ds : List PyData}, DpAll K H vs ds → DpAll K H' vs ds
  | _, _, .nil => .nil
  | _, _, .cons h t => .cons (dp_but x e h) (dpAll_but x e t)
end
theorem TrainAt.but {K : PySem.W.Frag} {H H' : Hp} {k a : Addr} {ps : List Part} (x : Ext H k) (e : But k H H') : TrainAt K H a ps → TrainAt K H' a ps
  | ⟨vs, h1, h2⟩ => ⟨vs, but_seq x e h1, dpAll_but x e h2⟩
end Ct

/-! all(.. for .. in ..), any(.. for .. in ..): the generator's own frame -/
namespace Ct
open PySem PySem.Spec PyProof.Rows L2 GenW
/-- the table of a def's code objects, whatever it holds -/
def TabX (P : Addr) : HO := .ext fun h => ∃ ps : Array Value, h.get? P = some { cls := .none, data := .fields ps } ∧ TriplesOk ps.toList
theorem over_gen {A : Around} {elt : Expr} {gs : List Comprehension} {scope : Scope} {pos : Pos} {it acc : Value} {env : Env} : A.over (.compLoop (.GeneratorExp elt gs scope pos) 0 it acc env) [] = A.deeper env := by
  first
    | rfl
    | (obtain ⟨hd, d, fr, gu, u⟩ := A; simp [Around.over, Around.deeper, marksOver, frameCount, unitsOf, envsOf, guardsOf, pushEnvs, pushGuards, Code.envs, Code.env?, Code.isFrame, Code.guards, Code.isGuard, Code.weight, Code.frames, Code.isCreation, Code.isCaller, Code.cUnits])
theorem over_genS {A : Around} {elt : Expr} {gs : List Comprehension} {scope : Scope} {pos : Pos} {it acc : Value} {env : Env} : A.over (.compStart (.GeneratorExp elt gs scope pos) 0 it acc env) [] = A.deeper env := by
  first
    | rfl
    | (obtain ⟨hd, d, fr, gu, u⟩ := A; simp [Around.over, Around.deeper, marksOver, frameCount, unitsOf, envsOf, guardsOf, pushEnvs, pushGuards, Code.envs, Code.env?, Code.isFrame, Code.guards, Code.isGuard, Code.weight, Code.frames, Code.isCreation, Code.isCaller, Code.cUnits])
section
variable {X : Cx} {pins : List (Addr × Obj)} {σ : L2.St} {H : Hp} {s : Shared}
theorem tabx_ok {P0 : Program} {w : World} {H : Hp} {h : Heap} {P : Addr} {ps : Array Value} (hm : h.get? P = some { cls := .none, data := .fields ps }) (ht : TriplesOk ps.toList) : ObjOk P0 w H h P (TabX P) :=
  ⟨⟨ps, hm, ht⟩, ⟨_, hm⟩, fun h1 h2 ⟨qs, a, b⟩ st => ⟨qs, st _ a, b⟩⟩
/-- the table has grown, all else is kept -/
theorem inv_tabX {P : Addr} {ps : Array Value} {h' : Heap} {g' : Array GenState} {d' : Drawn} {t' : Nat} (I : Inv X pins σ H s) (hP : H P = some (TabX P)) (k : ∀ b o, b ≠ P → s.heap.get? b = some o → h'.get? b = some o)
    (hm : h'.get? P = some { cls := .none, data := .fields ps }) (ht : TriplesOk ps.toList) (hg : AllBare g') : Inv X pins σ H { s with heap := h', gens := g', drawn := d', toks := t' } := by
  have nP : ∀ b u, H b = some u → u ≠ TabX P → b ≠ P := fun b u e q z => by
    rw [z, hP] at e
    exact q (Option.some.inj e).symm
  have nN : ∀ b, H b = none → b ≠ P := fun b e z => by
    rw [z, hP] at e
    cases e
  refine I.step (g' := g') (d' := d') (ch := []) (fun b hb => absurd hb (by simp)) (fun b o _ _ _ e n => k b o (nN b n) e) (fun b o _ _ _ e n => ⟨o.slots, k b o (nN b n) e⟩)
    (fun b o _ e n => n) (fun b o _ e => ?_) (fun b xs e => e) (fun b o u e => e) (fun b qs e => ⟨#[], by rw [e]; simp⟩) (fun m hn => ?_) (fun b u e => ?_) hg
  · by_cases hb : b = P
    · rw [hb]
      exact ⟨_, hm⟩
    · exact ⟨o, k b o hb e⟩
  · obtain ⟨ob, es, ep, ho, r⟩ := hn
    exact ⟨ob, es, ep, k _ ob (nN _ I.free) ho, r⟩
  · by_cases hb2 : b = P
    · rw [hb2, hP] at e
      cases e
      rw [hb2]
      exact tabx_ok hm ht
    · refine (I.hok b u e).stay (fun d v hd q => k d v ?_ q) (fun d q => q) fun d xs q => q
      rcases hd with z | z
      · rw [z]
        exact hb2
      · exact nP d _ z (fun q => by unfold TabX at q; cases q)
/-- the context of a generator expression's frame: its iterator's objects at fp, what stands at pn -/
abbrev gxc (X : Cx) (B : Around) (s : Shared) (H : Hp) (scope : Scope) (cenv : Env) (fp : List Addr) (pn : List (Addr × Obj)) : Cx :=
  { X with A := B.deeper cenv, s_0 := s, H_0 := H, env := cenv, outer := X.stack, stack := cenv :: X.stack, ex := fp, fn := fun x => scope.names.lookup x == some .cell, pn := pn, xe := fun _ _ => False }
theorem lookup_clo {cells : List (Str × Addr)} {names : List (Str × NameKind)} {y : Str} {c : Addr} (e : (cloFrom cells names []).lookup y = some c) : (y, NameKind.free) ∈ names ∧ c = (cells.lookup y).getD 0 := by
  rcases cloFrom_mem (PySem.mem_of_lookup e) with z | z
  · cases z
  · exact z
/-- the frame is made -/
theorem gx_start {B : Around} {scope : Scope} {own : List (Str × Nat)} {fp : List Addr} {code : Value} {itv : Value} {h5 : Heap} {g5 : Array GenState} {t5 : Nat} {d5 : Drawn} {a : Addr} {go : Obj}
    (I : Inv X pins σ H s) (hB : B.frames = some X.stack) (hBh : B.handled = none) (ok : BlkOk X.N X.env.scope scope own) (hN : X.N.Nodup) (hcell : ∀ y ∈ scope.names, y.2 ≠ .cell) (hfp : ∀ b ∈ fp, FpOk X pins H b ∧ b < s.heap.objs.size)
    (hns : h5.Ns s.heap.objs.size (fun y => if y = ".0" then some itv else none)) (kp : ∀ b o, s.heap.get? b = some o → h5.get? b = some o)
    (ha : s.heap.objs.size < a) (hgo : h5.get? a = some go) (hgc : ∀ v, go.data ≠ .cell v) (hg5 : AllBare g5) :
    Inv (gxc X B s H scope (genEnv scope (cloFrom X.env.cells scope.names []) s.heap.objs.size code builtinsNs X.env) fp [(a, go)]) [] (wipe σ (own.map (·.2))) H { s with heap := h5, gens := g5, toks := t5, drawn := d5 } := by
  have hfree : ∀ y ∈ scope.names, y.2 = .free → ∃ c, X.env.cells.lookup y.1 = some c := fun y hy e => by
    rcases ok.free y hy e with k | k
    · exact I.ok.has _ (.inl k)
    · exact I.ok.has _ (.inr k)
  generalize hcenv : genEnv scope (cloFrom X.env.cells scope.names []) s.heap.objs.size code builtinsNs X.env = cenv
  have hL : cenv.locals = s.heap.objs.size := by rw [← hcenv]; rfl
  have hcl : cenv.cells = cloFrom X.env.cells scope.names [] := by rw [← hcenv]; rfl
  have hsc : cenv.scope = scope := by rw [← hcenv]; rfl
  have mem : ∀ {y c}, cenv.cells.lookup y = some c → X.env.cells.lookup y = some c ∧ c < s.heap.objs.size := fun {y c} e => by
    rw [hcl] at e
    obtain ⟨h1, rfl⟩ := lookup_clo e
    obtain ⟨c, hc⟩ := hfree _ h1 rfl
    rw [hc]
    obtain ⟨w, z⟩ := I.cell _ _ hc
    exact ⟨rfl, z.lt⟩
  have look : ∀ {y}, scope.names.lookup y = some .free → ∃ c, cenv.cells.lookup y = some c ∧ X.env.cells.lookup y = some c := fun {y} hl => by
    have hy : (y, NameKind.free) ∈ scope.names := PySem.mem_of_lookup hl
    obtain ⟨c', e'⟩ := mem_lookup (cloFrom_has (cells := X.env.cells) (acc := []) hy)
    rw [← hcl] at e'
    exact ⟨c', e', (mem e').1⟩
  have okB : (gxc X B s H scope cenv fp [(a, go)]).Ok := by
    refine ⟨I.ok.mod, by show cenv.scope.kind = _; rw [hsc]; exact ok.kind, by show cenv.globals = _; rw [← hcenv]; exact I.ok.glob, by show cenv.builtins = _; rw [← hcenv]; rfl, by show s.heap.objs.size ≤ cenv.locals; rw [hL]; exact Nat.le_refl _,
      fun y z c e1 e2 => I.ok.inj y z c (mem e1).1 (mem e2).1, fun y hy => ?_, fun y c z e => ?_, fun _ => hBh, Around.frames_deeper hB, .inr ⟨rfl, ?_⟩, fun b hb => ⟨?_, fun y c e z => ?_⟩, I.bs, Nat.le_trans I.ok.bsz I.sz, fun b o e hb => ?_, fun b hb z => ?_, I.stack, I.stkFree⟩
    · have hy : cenv.scope.names.lookup y = some .cell ∨ cenv.scope.names.lookup y = some .free := hy
      rw [hsc] at hy
      rcases hy with hy | hy
      · exact absurd rfl (hcell _ (PySem.mem_of_lookup hy))
      · obtain ⟨c, h1, _⟩ := look hy
        exact ⟨c, h1⟩
    · have z : (scope.names.lookup y == some NameKind.cell) = true := z
      have z : scope.names.lookup y = some .cell := by simpa using z
      exact absurd rfl (hcell _ (PySem.mem_of_lookup z))
    · show cenv.frame = some cenv.locals
      rw [← hcenv]
      rfl
    · show b ≠ cenv.locals
      rw [hL]
      exact Nat.ne_of_lt (hfp b hb).2
    · exact (hfp b hb).1.2.2.2.2.1 y c (mem e).1 z
    · rcases (hfp b hb).1.2.2.2.1 with z | z
      · exact I.ok.noex b o e z
      · exact absurd (Nat.lt_of_lt_of_le (Heap.lt_size e) (Nat.le_trans I.ok.bsz z)) (Nat.lt_irrefl _)
    · rcases List.mem_cons.mp (I.stkSub b z) with z | z
      · exact (hfp b hb).1.2.1 z
      · exact (hfp b hb).1.2.2.1 z
  refine ⟨okB, rfl, hg5, Un.kept kp, ⟨fun y => if y = ".0" then some itv else none, ?_, fun i y av e1 e2 e3 => ?_⟩, fun y c e => ?_, ?_, fun y c e => ?_, fun p hp => ?_, I.hok.kept kp, by rw [wipe_length]; exact I.len⟩
  · show Heap.Ns _ cenv.locals _
    rw [hL]
    exact hns
  · obtain ⟨e2, hne⟩ := wipe_some e2
    have hfr : scope.names.lookup y = some .free := by
      have e3 : Vis cenv.scope y := e3
      rw [hsc] at e3
      have no : ∀ k, scope.names.lookup y = some k → ¬ (k = .local ∨ k = .cell) := fun k e hh => by
        rcases ok.own _ (PySem.mem_of_lookup e) hh with e' | e'
        · obtain ⟨p, hp, hpy⟩ := List.mem_map.mp e'
          have e3 := ok.ix p hp
          have : p.1 = y := hpy
          rw [this] at e3
          exact hne (List.mem_map.mpr ⟨p, hp, nodup_ix hN e3 e1⟩)
        · exact e' (List.mem_of_getElem? e1)
      rcases e3 with e3 | e3 | e3
      · exact absurd (.inl rfl) (no _ e3)
      · exact absurd (.inr rfl) (no _ e3)
      · exact e3
    obtain ⟨m, hn, hl⟩ := I.loc
    have hvis : Vis X.env.scope y := (ok.free _ (PySem.mem_of_lookup hfr) rfl).elim (fun k => .inr (.inl k)) (fun k => .inr (.inr k))
    obtain ⟨w, r, q⟩ := hl i y av e1 e2 hvis
    refine ⟨w, r, .inr ⟨.inr (by show cenv.scope.names.lookup y = _; rw [hsc]; exact hfr), ?_⟩⟩
    obtain ⟨c, h1, h2⟩ := look hfr
    rcases q with ⟨k, _⟩ | ⟨_, c', e', z⟩
    · have k : X.env.scope.names.lookup y = some .local := k
      rcases ok.free _ (PySem.mem_of_lookup hfr) rfl with k' | k' <;> rw [show X.env.scope.names.lookup y = _ from k'] at k <;> cases k
    · rw [h2] at e'
      cases e'
      exact ⟨c, h1, z.keeps kp⟩
  · obtain ⟨w, z⟩ := I.cell y c (mem e).1
    exact ⟨w, z.keeps kp⟩
  · show H cenv.locals = none
    rw [hL]
    exact I.hok.fresh (Nat.le_refl _)
  · exact I.freeC y c (mem e).1
  · have hp : p ∈ [(a, go)] ++ [] := hp
    rw [List.append_nil, List.mem_singleton] at hp
    subst hp
    refine ⟨hgo, I.hok.fresh (Nat.le_of_lt ha), ?_, ?_, hgc⟩
    · show a ≠ cenv.locals
      rw [hL]
      exact Nat.ne_of_gt ha
    · show a ∉ frs X.stack
      intro z
      rcases List.mem_cons.mp (I.stkSub a z) with z | z
      · have h1 := I.lt
        rw [← z] at h1
        exact Nat.lt_irrefl _ (Nat.lt_trans h1 ha)
      · exact I.nofs (Nat.le_of_lt ha) z
end
end Ct
namespace Ct
open PySem PySem.Spec PyProof.Rows L2 GenW
section
variable {X : Cx}
/-- what is known where the whole is done: b the answer -/
def GFin (P : Program) (w : World) (fr fp : List Addr) (H4 : Hp) (h4 : Heap) (Q : VK) (b : Bool) (h : Heap) : Prop := ∃ H', Un fr fp H4 H' h4 h ∧ HOk P w H' h ∧ Q (.bl b) H'
def GDone (P : Program) (w : World) (fr fp : List Addr) (H4 : Hp) (s4 : Shared) (Q : VK) (st : Bool) : Nat → Shared → Shared → Prop := fun _ _ s1 => s1.os = s4.os ∧ AllBare s1.gens ∧ GFin P w fr fp H4 s4.heap Q (!st) s1.heap
/-- the generator hands out a truth: the one that ends the walk, or another one, and goes on -/
def GYld (P : Program) (w : World) (fr fp : List Addr) (H4 : Hp) (s4 : Shared) (Q : VK) (st : Bool) (a : Addr) (g : Nat) : Protocol := fun _ _ v s1 kap =>
  ∃ b, v = .bool b ∧ s1.os = s4.os ∧ AllBare s1.gens ∧ s1.heap.NoLimit ∧ s1.heap.IsGen a g ∧ (if b = st then GFin P w fr fp H4 s4.heap Q st s1.heap else ∀ s' : Shared, s'.heap = s1.heap → s'.os = s1.os → AllBare s'.gens → kap (.send .none) s')
/-- all(..) with st = false, any(..) with st = true -/
def tGen (P : Addr) (st : Bool) (wi : TI) (g : TG) (te : TE) (vs : List Nat) : TE := fun σ H Q => wi σ H fun J H1 => H1 P = some (TabX P) ∧ ∃ W : Nat → Nat → Hp → Prop, (∃ m, W 0 m H1) ∧ ∀ i m H, W i m H →
  (J.stop i H ∧ Q (.bl (!st)) H) ∨ (J.go i H ∧ ∃ Nx : Hp → Prop, (∀ H', Nx H' → ∃ m', m' < m ∧ W (i + 1) m' H') ∧ ∀ x H', J.yld i H x H' → g x (wipe σ vs) H' fun σ2 H2 => wipe σ2 vs = wipe σ vs ∧ te σ2 H2 fun y H3 => ∃ b, y = .bl b ∧ if b = st then Q (.bl st) H3 else Nx H3)

theorem seg_gx {B : Around} {scope : Scope} {own : List (Str × Nat)} {fp : List Addr} {s4 : Shared} {H4 : Hp} {cenv : Env} {a : Addr} {go : Obj} {gn : Nat} {elt tg iter : Expr} {pos : Pos} {it : Addr} {tn : Nat → Heap → Prop} {J : It} {g : TG} {te : TE} {σ : L2.St} {Q : VK} {st : Bool} {W : Nat → Nat → Hp → Prop}
    (hc : X.calm = true) (hco : cenv.scope.isCoroutine = false) (hgn : ∀ h : Heap, h.get? a = some go → h.IsGen a gn)
    (T : Turn X.prog X.w X.K tg J fp it tn) (pg : PG (gxc X B s4 H4 scope cenv fp [(a, go)]) tg g) (pe : PE (gxc X B s4 H4 scope cenv fp [(a, go)]) elt te) (hfa : ∀ b ∈ fp, b ≠ a)
    (turn : ∀ i m H, W i m H → (J.stop i H ∧ Q (.bl (!st)) H) ∨ (J.go i H ∧ ∃ Nx : Hp → Prop, (∀ H', Nx H' → ∃ m', m' < m ∧ W (i + 1) m' H') ∧ ∀ x H', J.yld i H x H' → g x (wipe σ (own.map (·.2))) H' fun σ2 H2 => wipe σ2 (own.map (·.2)) = wipe σ (own.map (·.2)) ∧ te σ2 H2 fun y H3 => ∃ b, y = .bl b ∧ if b = st then Q (.bl st) H3 else Nx H3)) :
    ∀ (m n : Nat), m < n → ∀ (i : Nat) (s₀ s : Shared) (H : Hp), W i m H → Inv (gxc X B s4 H4 scope cenv fp [(a, go)]) [] (wipe σ (own.map (·.2))) H s → tn i s.heap → (∀ b ∈ fp, H b = none) →
      Seg (model X.prog X.w) B (fun n s₀ r s₁ => r = .ok .next ∧ GDone X.prog X.w (frs X.stack) fp H4 s4 Q st n s₀ s₁) (GYld X.prog X.w (frs X.stack) fp H4 s4 Q st a gn) n s₀
        (.compLoop (.GeneratorExp elt [⟨tg, iter, [], 0⟩] scope pos) 0 (.ref it) .none cenv)
        ((model X.prog X.w).den (.compLoop (.GeneratorExp elt [⟨tg, iter, [], 0⟩] scope pos) 0 (.ref it) .none cenv)) [] s := by
  intro m
  induction m using Nat.strongRecOn with
  | ind m ih =>
    intro n hmn i s₀ s H w I st5 n5
    have stat : ∀ {σ' : L2.St} {H' : Hp} {s' : Shared}, Inv (gxc X B s4 H4 scope cenv fp [(a, go)]) [] σ' H' s' → (∀ b ∈ fp, H' b = none) → ∀ b ∈ fp, FpOk (gxc X B s4 H4 scope cenv fp [(a, go)]) [] H' b := fun {σ' H' s'} I' hn b hb =>
      ⟨hn b hb, (I'.ok.exf b hb).1, I'.ok.exfs b hb, .inl hb, fun x c e => (I'.ok.exf b hb).2 x c e, fun p hp => by
        have hp : p ∈ [(a, go)] ++ [] := hp
        rw [List.append_nil, List.mem_singleton] at hp
        subst hp
        exact fun z => hfa b hb z.symm⟩
    have pinned : ∀ {pins' : List (Addr × Obj)} {σ' : L2.St} {H' : Hp} {s' : Shared}, Inv (gxc X B s4 H4 scope cenv fp [(a, go)]) pins' σ' H' s' → s'.heap.IsGen a gn := fun {pins' σ' H' s'} I' =>
      hgn _ (I'.pin (a, go) (List.mem_append_left _ (List.mem_singleton.mpr rfl))).1
    show Seg _ B _ _ _ s₀ _ ((compTurn (.GeneratorExp elt [⟨tg, iter, [], 0⟩] scope pos) 0 (.ref it) .none cenv).onRaise (leaving cenv)) [] s
    rw [compTurn_gen, Sem.onRaise_eq_wrap]
    refine seg_bind_wrap (wpAny_standAt ?_)
    rcases turn i m H w with ⟨stop, qq⟩ | ⟨goes, Nx, hNx, step⟩
    · refine seg_bind_wrap ?_
      rw [over_gen]
      refine wpAny_mono (T.done (gxc X B s4 H4 scope cenv fp [(a, go)]) rfl rfl rfl hc i [] s _ H (fun _ _ => False) I (stat I n5) st5 stop) (fun r s6 hr => ?_) (fun _ _ z => z.elim)
      obtain ⟨rfl, I6⟩ := hr
      exact seg_end (.ok .next) ⟨rfl, I6.os, I6.bare, H, I6.base, I6.hok, qq⟩
    · refine seg_bind_wrap ?_
      rw [over_gen]
      refine wpAny_mono (T.item (gxc X B s4 H4 scope cenv fp [(a, go)]) rfl rfl rfl hc i [] s _ H (fun _ _ => False) I (stat I n5) st5 goes) (fun r s6 hr => ?_) (fun _ _ z => z.elim)
      obtain ⟨u, rfl, h6⟩ := hr
      refine seg_bind_wrap ?_
      rw [over_gen]
      refine wpAny_mono h6 (fun _ s7 h7 => ?_) (fun _ _ z => z.elim)
      obtain ⟨x, H7, I7, r7, y7, st7, n7⟩ := h7
      have I7' := I7.pinned (stat I7 n7) (T.obj _ _ st7)
      refine seg_bind_wrap ?_
      rw [over_gen]
      refine wpAny_mono (pg.run _ s7 _ H7 x u _ I7' r7 (step x H7 y7)) (fun _ s8 h8 => ?_) (fun _ _ z => z.elim)
      obtain ⟨σ8, H8, I8, hw8, q8⟩ := h8
      refine seg_bind_wrap (wpAny_tests_nil ?_)
      simp only [if_true]
      have hy : ∀ v, yieldOut cenv v = yieldValue v := fun v => by simp only [yieldOut, hco, Bool.false_eq_true, if_false]
      simp only [hy]
      rw [Sem.bind_eq_wrap', Sem.bind_eq_wrap', Sem.wrap_wrap, Sem.wrap_wrap]
      refine seg_wrap ?_
      rw [over_gen]
      refine wpAny_mono (pe.run _ s8 σ8 H8 _ I8 q8) (fun z s9 h9 => ?_) (fun _ _ z => z.elim)
      obtain ⟨y, H9, I9, r9, b, rfl, q9⟩ := h9
      have r9 : z = Value.bool b := r9
      subst r9
      have hlim : s9.heap.NoLimit := I9.nolimit
      by_cases hb : b = st
      · obtain ⟨k, rfl⟩ : ∃ k, n = k + 1 := ⟨n - 1, by omega⟩
        rw [if_pos hb] at q9
        refine seg_at (seg_yield rfl rfl rfl ⟨b, rfl, I9.os, I9.bare, hlim, pinned I9, ?_⟩)
        rw [if_pos hb]
        exact ⟨H9, I9.base, I9.hok, q9⟩
      · rw [if_neg hb] at q9
        obtain ⟨m', hm, w'⟩ := hNx H9 q9
        obtain ⟨k, rfl⟩ : ∃ k, n = k + 1 := ⟨n - 1, by omega⟩
        refine seg_at (seg_yield rfl rfl rfl ⟨b, rfl, I9.os, I9.bare, hlim, pinned I9, ?_⟩)
        rw [if_neg hb]
        intro s' e1 e2 e3
        have pin' : ∀ b ∈ fp, ∀ o, s7.heap.get? b = some o → s9.heap.get? b = some o ∧ H9 b = none := fun b hb o e =>
          let z := I9.pin (b, o) (List.mem_append_right _ (List.mem_append_right _ (mem_pinsAt hb e)))
          ⟨z.1, z.2.1⟩
        have hl : (wipe σ (own.map (·.2))).length = σ8.length := by rw [← hw8, wipe_length]
        have I10 : Inv (gxc X B s4 H4 scope cenv fp [(a, go)]) [] (wipe σ (own.map (·.2))) H9 s9 := (I9.unpinned (pins := [])).weak hl (fun j v e => by
          rw [← hw8] at e
          exact (wipe_some e).1)
        have I11 : Inv (gxc X B s4 H4 scope cenv fp [(a, go)]) [] (wipe σ (own.map (·.2))) H9 s' := by
          refine I10.call' (ch := []) e2 (Un.kept fun b o e => by rw [e1]; exact e) (by rw [e1]; exact I10.hok) e3 fun b z => by simp at z
        refine seg_again rfl (ih m' hm k (by omega) (i + 1) s' s' H9 w' I11 ?_ fun b hb => ?_)
        · rw [e1]
          exact T.keep _ _ _ st7 fun b hb o e => (pin' b hb o e).1
        · obtain ⟨o, e, _⟩ := T.obj _ _ st7 b hb
          exact (pin' b hb o e).2
end
end Ct
namespace Ct
open PySem PySem.Spec PyProof.Rows L2 GenW
section
variable {P : Program} {w : World} {A : Around} {fr fp : List Addr} {H4 : Hp} {s4 : Shared} {Q : VK} {a : Addr} {g : Nat} {R : Result → Shared → Prop}
theorem all_gx (hh : A.handled = none) (hd : A.depth < recursionLimit) (hend : ∀ b (s' : Shared), s'.os = s4.os → AllBare s'.gens → GFin P w fr fp H4 s4.heap Q b s'.heap → R (.ok (.ret (.bool b))) s') :
    ∀ (m : Nat) (s : Shared), s.heap.IsGen a g → s.heap.NoLimit →
      (∃ gs, s.gens[g]? = some gs ∧ gs.Goes (model P w) A.in1.in1 (fun n s₀ r s₁ => r = .ok .next ∧ GDone P w fr fp H4 s4 Q false n s₀ s₁) (GYld P w fr fp H4 s4 Q false a g) m (.send .none) (s.setGen g .running)) →
      codeAny (model P w) A (.builtin "all.loop" ⟨[.ref a], []⟩) R s := by
  intro m
  induction m with
  | zero =>
    intro s hg hl ⟨gs, hgs, hgo⟩
    refine codeAny_builtin F.entry_all_loop ?_
    rw [Around.under_plainId F.plain_all_loop _]
    show wpAny _ A.in1 (pyNext (.ref a) >>= _) _ _ s
    refine wpAny_bind (wpAny_pyNext_genexpQ (A := A.in1) hh hl hd hg hgs hgo (fun v s₁ gs' hbare hv => ?_) (fun s₁ hp h' hk => ?_))
    · obtain ⟨b, rfl, os1, hb1, hl1, hg1, q⟩ := hv
      refine wpAny_bind (wpAny_holding (wpAny_truthy_bool ?_))
      refine wpAny_bind (wpAny_letGo ?_)
      by_cases hb : b = false
      · rw [if_pos hb] at q
        subst hb
        simp only [Bool.false_eq_true, if_false]
        refine wpAny_bind (wpAny_rule (wpAny_pure ?_))
        exact hend false _ os1 (allBare_setGen hb1 hbare) q
      · rw [if_neg hb] at q
        exact False.elim (q s₁ rfl rfl hb1)
    · obtain ⟨os1, hb1, H', un, hok, hQ⟩ := hp
      refine wpAny_bind (wpAny_rule (wpAny_pure ?_))
      exact hend true _ os1 (allBare_setGen hb1 rfl) ⟨H', un.trans (Un.kept hk), hok.kept hk, hQ⟩
  | succ m ih =>
    intro s hg hl ⟨gs, hgs, hgo⟩
    have hgl : g < s.gens.size := (Array.getElem?_eq_some_iff.mp hgs).1
    refine codeAny_builtin F.entry_all_loop ?_
    rw [Around.under_plainId F.plain_all_loop _]
    show wpAny _ A.in1 (pyNext (.ref a) >>= _) _ _ s
    refine wpAny_bind (wpAny_gsz (n := g + 1) hgl (wpAny_pyNext_genexpQ (A := A.in1) hh hl hd hg hgs hgo (fun v s₁ gs' hbare hv => ?_) (fun s₁ hp h' hk => ?_)))
    · intro hsz
      obtain ⟨b, rfl, os1, hb1, hl1, hg1, q⟩ := hv
      refine wpAny_bind (wpAny_holding (wpAny_truthy_bool ?_))
      refine wpAny_bind (wpAny_letGo ?_)
      have hsz1 : g < s₁.gens.size := by
        have q : (s₁.setGen g gs').gens.size = s₁.gens.size := setGen_size _ _ _
        have hsz' : g + 1 ≤ (s₁.setGen g gs').gens.size := hsz
        omega
      by_cases hb : b = false
      · rw [if_pos hb] at q
        subst hb
        simp only [Bool.false_eq_true, if_false]
        refine wpAny_bind (wpAny_rule (wpAny_pure ?_))
        exact hend false _ os1 (allBare_setGen hb1 hbare) q
      · rw [if_neg hb] at q
        have hb2 : b = true := by
          cases b with
          | true => rfl
          | false => exact absurd rfl hb
        subst hb2
        simp only [if_true]
        refine wpAny_pure ⟨plainId_quiet F.plain_all_loop _, ?_⟩
        exact ih (s₁.setGen g gs') hg1 hl1 ⟨gs', setGen_at hsz1, q _ rfl rfl (allBare_setGen (allBare_setGen hb1 hbare) rfl)⟩
    · intro _
      obtain ⟨os1, hb1, H', un, hok, hQ⟩ := hp
      refine wpAny_bind (wpAny_rule (wpAny_pure ?_))
      exact hend true _ os1 (allBare_setGen hb1 rfl) ⟨H', un.trans (Un.kept hk), hok.kept hk, hQ⟩
theorem any_gx (hh : A.handled = none) (hd : A.depth < recursionLimit) (hend : ∀ b (s' : Shared), s'.os = s4.os → AllBare s'.gens → GFin P w fr fp H4 s4.heap Q b s'.heap → R (.ok (.ret (.bool b))) s') :
    ∀ (m : Nat) (s : Shared), s.heap.IsGen a g → s.heap.NoLimit →
      (∃ gs, s.gens[g]? = some gs ∧ gs.Goes (model P w) A.in1.in1 (fun n s₀ r s₁ => r = .ok .next ∧ GDone P w fr fp H4 s4 Q true n s₀ s₁) (GYld P w fr fp H4 s4 Q true a g) m (.send .none) (s.setGen g .running)) →
      codeAny (model P w) A (.builtin "any.loop" ⟨[.ref a], []⟩) R s := by
  intro m
  induction m with
  | zero =>
    intro s hg hl ⟨gs, hgs, hgo⟩
    refine codeAny_builtin F.entry_any_loop ?_
    rw [Around.under_plainId F.plain_any_loop _]
    show wpAny _ A.in1 (pyNext (.ref a) >>= _) _ _ s
    refine wpAny_bind (wpAny_pyNext_genexpQ (A := A.in1) hh hl hd hg hgs hgo (fun v s₁ gs' hbare hv => ?_) (fun s₁ hp h' hk => ?_))
    · obtain ⟨b, rfl, os1, hb1, hl1, hg1, q⟩ := hv
      refine wpAny_bind (wpAny_holding (wpAny_truthy_bool ?_))
      refine wpAny_bind (wpAny_letGo ?_)
      by_cases hb : b = true
      · rw [if_pos hb] at q
        subst hb
        simp only [if_true]
        refine wpAny_bind (wpAny_rule (wpAny_pure ?_))
        exact hend true _ os1 (allBare_setGen hb1 hbare) q
      · rw [if_neg hb] at q
        exact False.elim (q s₁ rfl rfl hb1)
    · obtain ⟨os1, hb1, H', un, hok, hQ⟩ := hp
      refine wpAny_bind (wpAny_rule (wpAny_pure ?_))
      exact hend false _ os1 (allBare_setGen hb1 rfl) ⟨H', un.trans (Un.kept hk), hok.kept hk, hQ⟩
  | succ m ih =>
    intro s hg hl ⟨gs, hgs, hgo⟩
    have hgl : g < s.gens.size := (Array.getElem?_eq_some_iff.mp hgs).1
    refine codeAny_builtin F.entry_any_loop ?_
    rw [Around.under_plainId F.plain_any_loop _]
    show wpAny _ A.in1 (pyNext (.ref a) >>= _) _ _ s
    refine wpAny_bind (wpAny_gsz (n := g + 1) hgl (wpAny_pyNext_genexpQ (A := A.in1) hh hl hd hg hgs hgo (fun v s₁ gs' hbare hv => ?_) (fun s₁ hp h' hk => ?_)))
    · intro hsz
      obtain ⟨b, rfl, os1, hb1, hl1, hg1, q⟩ := hv
      refine wpAny_bind (wpAny_holding (wpAny_truthy_bool ?_))
      refine wpAny_bind (wpAny_letGo ?_)
      have hsz1 : g < s₁.gens.size := by
        have q : (s₁.setGen g gs').gens.size = s₁.gens.size := setGen_size _ _ _
        have hsz' : g + 1 ≤ (s₁.setGen g gs').gens.size := hsz
        omega
      by_cases hb : b = true
      · rw [if_pos hb] at q
        subst hb
        simp only [if_true]
        refine wpAny_bind (wpAny_rule (wpAny_pure ?_))
        exact hend true _ os1 (allBare_setGen hb1 hbare) q
      · rw [if_neg hb] at q
        have hb2 : b = false := by
          cases b with
          | false => rfl
          | true => exact absurd rfl hb
        subst hb2
        simp only [Bool.false_eq_true, if_false]
        refine wpAny_pure ⟨plainId_quiet F.plain_any_loop _, ?_⟩
        exact ih (s₁.setGen g gs') hg1 hl1 ⟨gs', setGen_at hsz1, q _ rfl rfl (allBare_setGen (allBare_setGen hb1 hbare) rfl)⟩
    · intro _
      obtain ⟨os1, hb1, H', un, hok, hQ⟩ := hp
      refine wpAny_bind (wpAny_rule (wpAny_pure ?_))
      exact hend false _ os1 (allBare_setGen hb1 rfl) ⟨H', un.trans (Un.kept hk), hok.kept hk, hQ⟩
end
end Ct
namespace Ct
open PySem PySem.Spec PyProof.Rows L2 GenW
section
variable {X : Cx}
theorem gen_eval {pins : List (Addr × Obj)} {σ : L2.St} {H : Hp} {s : Shared} {Q : VK} {c P : Addr} {elt tg iter : Expr} {scope : Scope} {own : List (Str × Nat)} {pos : Pos} {wi : TI} {g : TG} {te : TE} {st : Bool} {k : Nat} {Q' : Value → Shared → Prop}
    (hr : Room (k + 1) X.A) (hc : X.calm = true) (hN : X.N.Nodup) (TB : GxR.TabB X.base X.mg c P) (hcode : X.env.code = .ref c) (hi : PI X tg iter wi) (ok : BlkOk X.N X.env.scope scope own) (hcell : ∀ y ∈ scope.names, y.2 ≠ .cell) (hco : scope.isCoroutine = false) (hdot : scope.names.lookup (".0" : Str) = some NameKind.local)
    (hg : ∀ (s : Shared) (H : Hp) (C : Addr) (cl : List (Str × Addr)) (cd : Value) (fp : List Addr) (pn : List (Addr × Obj)) (B : Around), PG (gxc X B s H scope (genEnv scope cl C cd builtinsNs X.env) fp pn) tg g)
    (he : ∀ (s : Shared) (H : Hp) (C : Addr) (cl : List (Str × Addr)) (cd : Value) (fp : List Addr) (pn : List (Addr × Obj)) (B : Around), Room k (B.deeper (genEnv scope cl C cd builtinsNs X.env)) → PE (gxc X B s H scope (genEnv scope cl C cd builtinsNs X.env) fp pn) elt te)
    (hs : ∀ x, genFold iter X.env x = pure x) (I : Inv X pins σ H s) (h : tGen P st wi g te (own.map (·.2)) σ H Q)
    (hQ : ∀ (a : Addr) (gn : Nat) (s4 s5 : Shared) (H4 : Hp) (fp : List Addr) (m : Nat) (gs : GenState), Inv X pins σ H4 s4 → (∀ b ∈ fp, FpOk X pins H4 b) → s5.heap.IsGen a gn → s5.heap.NoLimit → s5.gens[gn]? = some gs →
      gs.Goes (model X.prog X.w) X.A.in1.in1 (fun n s₀ r s₁ => r = .ok .next ∧ GDone X.prog X.w (frs X.stack) fp H4 s4 Q st n s₀ s₁) (GYld X.prog X.w (frs X.stack) fp H4 s4 Q st a gn) m (.send .none) (s5.setGen gn .running) → Q' (.ref a) s5) :
    wpAny (model X.prog X.w) X.A (eval (.GeneratorExp elt [⟨tg, iter, [], 0⟩] scope pos) X.env) Q' X.xe s := by
  have hfree : ∀ y ∈ scope.names, y.2 = .free → ∃ c, X.env.cells.lookup y.1 = some c := fun y hy e => by
    rcases ok.free y hy e with k | k
    · exact I.ok.has _ (.inl k)
    · exact I.ok.has _ (.inr k)
  refine wpAny_GeneratorExp_make hco (closure_ok hfree) hcell hdot ok.kind hr.depth (thn (hi.run pins s σ H _ I h) fun xv s1 hx => thn hx fun itv s2 h2 => ?_) hs
  obtain ⟨it, fp, tn, J, H2, rfl, I2, T, st2, f2, hTab, W, ⟨m0, w0⟩, turn⟩ := h2
  obtain ⟨⟨ps, hP2, ht⟩, _, _⟩ := I2.hok P _ hTab
  have hPlt : P < s2.heap.objs.size := Heap.lt_size hP2
  have cd : PySem.W.CodeHd s2.heap c P := TB.code.keeps I2.bk
  have nP : ∀ b, H2 b = none → b ≠ P := fun b e z => by
    rw [z, hTab] at e
    cases e
  have cont : ∀ (code : Value) (h3 : Heap) (tk : Nat) (ps' : Array Value), Heap.ExtBut P s2.heap h3 → s2.heap.objs.size ≤ h3.objs.size → h3.get? P = some { cls := .none, data := .fields ps' } → TriplesOk ps'.toList →
      wpAny (model X.prog X.w) X.A (builtinsFor X.env.globals X.env.builtins) (fun bi s₄ =>
        ∀ h', h'.Ns s₄.heap.objs.size (fun y => if y = ".0" then some (Value.ref it) else none) → Heap.SameBut s₄.heap.objs.size (s₄.heap.push { cls := .type "frame", data := .dict #[] }) h' →
          Q' (.ref h'.objs.size) { s₄ with
            gens := s₄.gens.push (.fresh (.compStart (.GeneratorExp elt [⟨tg, iter, [], 0⟩] scope pos) 0 (.ref it) .none (genEnv scope (cloFrom X.env.cells scope.names []) s₄.heap.objs.size code bi X.env))),
            toks := s₄.toks + 1 + 1 + 1,
            heap := h'.push { cls := .type "generator", data := .fields #[.int s₄.gens.size 0, .str "<genexpr>" (s₄.toks + 1), .str (X.env.qual ++ "<genexpr>") (s₄.toks + 1 + 1)] } }) X.xe { s2 with heap := h3, toks := tk } := by
    intro code h3 tk ps' hx hsz hP3 ht3
    obtain ⟨bm, ob, e1, e2, e3, e4, e5, e6, e7, e8⟩ := TB.bm
    have keep3 : ∀ b u, b ≠ P → s2.heap.get? b = some u → h3.get? b = some u := fun b u hb e => hx b u hb e
    refine wpAny_builtinsFor (m := X.mg) (by rw [I2.ok.glob]; exact (I2.mod.glob.keeps I2.bk).extBut hx TB.gP) e1 e2 (keep3 _ _ e4 (I2.bk _ _ e5)) e6 e7 e8 ?_
    intro h' hn' hs'
    have I4 : Inv X pins σ H2 { s2 with heap := h3, toks := tk } := inv_tabX (g' := s2.gens) (d' := s2.drawn) (t' := tk) I2 hTab keep3 hP3 ht3 I2.bare
    generalize hs4 : ({ s2 with heap := h3, toks := tk } : Shared) = s4 at *
    have h4 : s4.heap = h3 := by rw [← hs4]
    have keep' : ∀ b o, s4.heap.get? b = some o → h'.get? b = some o := fun b o e => hs'.extBut b o (Nat.ne_of_lt (Heap.lt_size e)) (Heap.get?_push_of_some _ e)
    have hsz' : h'.objs.size = s4.heap.objs.size + 1 := by rw [hs'.1, Heap.size_push]
    generalize hgo : ({ cls := .type "generator", data := .fields #[.int s4.gens.size 0, .str "<genexpr>" (s4.toks + 1), .str (X.env.qual ++ "<genexpr>") (s4.toks + 1 + 1)] } : Obj) = go
    have hgn : ∀ h : Heap, h.get? h'.objs.size = some go → h.IsGen h'.objs.size s4.gens.size := fun h e => ⟨go, _, _, e, by rw [← hgo], by rw [← hgo], by rw [← hgo]⟩
    have keep5 : ∀ b o, s4.heap.get? b = some o → (h'.push go).get? b = some o := fun b o e => Heap.get?_push_of_some _ (keep' b o e)
    have hgoat : (h'.push go).get? h'.objs.size = some go := Heap.get?_push_size _ (by rw [← hgo]; rfl)
    have f4 : ∀ b ∈ fp, FpOk X pins H2 b ∧ b < s4.heap.objs.size := fun b hb => by
      obtain ⟨o, e, _⟩ := T.obj _ _ st2 b hb
      refine ⟨f2 b hb, ?_⟩
      rw [h4]
      exact Heap.lt_size (keep3 b o (nP b (f2 b hb).1) e)
    have kfp : ∀ b ∈ fp, ∀ o, s2.heap.get? b = some o → (h'.push go).get? b = some o := fun b hb o e => keep5 b o (by rw [h4]; exact keep3 b o (nP b (f2 b hb).1) e)
    have lim5 : (h'.push go).NoLimit := I4.nolimit.keeps keep5
    refine hQ h'.objs.size s4.gens.size s4 _ H2 fp (m0 + 1) _ I4 f2 (hgn _ hgoat) lim5 (Array.getElem?_push_size ..) ?_
    have hns5 : (h'.push go).Ns s4.heap.objs.size (fun y => if y = ".0" then some (Value.ref it) else none) := hn'.push _
    have hfa : ∀ b ∈ fp, b ≠ h'.objs.size := fun b hb => by
      have := (f4 b hb).2
      intro z
      rw [z, hsz'] at this
      exact absurd (Nat.lt_trans (Nat.lt_succ_self _) this) (Nat.lt_irrefl _)
    have J5 : ∀ (g5 : Array GenState), AllBare g5 → Inv (gxc X X.A.in1.in1 s4 H2 scope (genEnv scope (cloFrom X.env.cells scope.names []) s4.heap.objs.size code builtinsNs X.env) fp [(h'.objs.size, go)]) [] (wipe σ (own.map (·.2))) H2 { s4 with heap := h'.push go, gens := g5, toks := s4.toks + 1 + 1 + 1, drawn := s4.drawn } := fun g5 b5 =>
      gx_start (B := X.A.in1.in1) I4 I4.ok.frames hr.hd ok hN hcell f4 hns5 keep5 (by rw [hsz']; exact Nat.lt_succ_self _) hgoat (fun v z => by rw [← hgo] at z; cases z) b5
    have room : Room k (X.A.in1.in1.deeper (genEnv scope (cloFrom X.env.cells scope.names []) s4.heap.objs.size code builtinsNs X.env)) :=
      ⟨hr.hd, by have := hr.dp; show X.A.depth + 1 + 3 * k + 5 < _; omega, by have := hr.un; show X.A.units + 1 + 1 + 3 + 16 * k + 200 < _; omega⟩
    have b5 : AllBare ((s4.gens.push (.fresh (.compStart (.GeneratorExp elt [⟨tg, iter, [], 0⟩] scope pos) 0 (.ref it) .none (genEnv scope (cloFrom X.env.cells scope.names []) s4.heap.objs.size code builtinsNs X.env)))).setIfInBounds s4.gens.size .running) :=
      allBare_setGen (s := { s4 with gens := s4.gens.push (.fresh (.compStart (.GeneratorExp elt [⟨tg, iter, [], 0⟩] scope pos) 0 (.ref it) .none (genEnv scope (cloFrom X.env.cells scope.names []) s4.heap.objs.size code builtinsNs X.env))) }) (g := s4.gens.size) (AllBare.push I4.bare rfl) rfl
    have loop := seg_gx (iter := iter) (pos := pos) (σ := σ) (own := own) (Q := Q) (st := st) hc hco hgn T (hg s4 H2 _ _ code fp [(h'.objs.size, go)] X.A.in1.in1) (he s4 H2 _ _ code fp [(h'.objs.size, go)] X.A.in1.in1 room) hfa turn m0 (m0 + 1) (Nat.lt_succ_self _) 0
      (Shared.setGen { s4 with heap := h'.push go, gens := s4.gens.push (.fresh (.compStart (.GeneratorExp elt [⟨tg, iter, [], 0⟩] scope pos) 0 (.ref it) .none (genEnv scope (cloFrom X.env.cells scope.names []) s4.heap.objs.size code builtinsNs X.env))), toks := s4.toks + 1 + 1 + 1 } s4.gens.size .running)
      (Shared.setGen { s4 with heap := h'.push go, gens := s4.gens.push (.fresh (.compStart (.GeneratorExp elt [⟨tg, iter, [], 0⟩] scope pos) 0 (.ref it) .none (genEnv scope (cloFrom X.env.cells scope.names []) s4.heap.objs.size code builtinsNs X.env))), toks := s4.toks + 1 + 1 + 1 } s4.gens.size .running)
      H2 w0 (J5 _ b5) (T.keep _ _ _ st2 kfp) (fun b hb => (f2 b hb).1)
    refine ⟨rfl, ?_⟩
    show Seg _ X.A.in1.in1 _ _ _ _ _ ((compStart (.GeneratorExp elt [⟨tg, iter, [], 0⟩] scope pos) 0 (.ref it) .none (genEnv scope (cloFrom X.env.cells scope.names []) s4.heap.objs.size code builtinsNs X.env)).onRaise (leaving (genEnv scope (cloFrom X.env.cells scope.names []) s4.heap.objs.size code builtinsNs X.env))) [] _
    unfold compStart
    rw [Sem.onRaise_eq_wrap]
    show Seg _ X.A.in1.in1 _ _ _ _ _ ((ask >>= _).wrap _ _ _ _) [] _
    refine seg_bind_wrap (wpAny_askSetting ?_)
    split
    · exact seg_again rfl loop
    · first
        | exact seg_bind_wrap (wpAny_rule (seg_bind_wrap (wpAny_standAt (seg_bind_wrap (T.self _ 0 _ _ _ (T.keep _ _ _ st2 kfp) (seg_again rfl loop))))))
        | (refine seg_bind_wrap (wpAny_rule ?_); show Seg _ _ _ _ _ _ _ ((standAt iter.pos >>= _).wrap _ _ _ _) [] _; exact seg_bind_wrap (wpAny_standAt (seg_bind_wrap (T.self _ 0 _ _ _ (T.keep _ _ _ st2 kfp) (seg_again rfl loop)))))
  refine ⟨I2.nolimit, ?_⟩
  cases hf : codeAmong pos ps.toList with
  | none =>
    refine wpAny_genexprCodeX hcode (cd.code hP2 ht) (cd.tab hP2) hf fun c' h' tk hx hge hlt hco' _ htab' _ => ?_
    obtain ⟨o1, vs, f1, tf, fl, tg, inF, tx, tt, op, _, _, _, _, _, _, _, _, _, htr, _⟩ := hco'
    exact cont _ h' tk _ hx (Nat.le_trans hge (Nat.le_of_lt hlt)) htab'.2 htr
  | some cv =>
    refine wpAny_genexprCode_hit hcode (cd.code hP2 ht) hf ?_
    exact cont cv s2.heap s2.toks ps (Heap.ExtBut.refl _ _) (Nat.le_refl _) hP2 ht
end
end Ct
namespace Ct
open PySem PySem.Spec PyProof.Rows L2 GenW
section
variable {X : Cx}
theorem gx_end {pins : List (Addr × Obj)} {σ : L2.St} {H4 : Hp} {s4 s' : Shared} {fp : List Addr} {Q : VK} {b : Bool} (I4 : Inv X pins σ H4 s4) (f4 : ∀ b ∈ fp, FpOk X pins H4 b) (os : s'.os = s4.os) (bare : AllBare s'.gens) (h : GFin X.prog X.w (frs X.stack) fp H4 s4.heap Q b s'.heap) : EP X pins σ Q (.bool b) s' := by
  obtain ⟨H', un, hok, q⟩ := h
  exact ⟨.bl b, H', I4.call' (ch := fp) os un hok bare fun b hb => ⟨(f4 b hb).2.2.2.1, (f4 b hb).2.1, (f4 b hb).2.2.2.2.1, (f4 b hb).2.2.2.2.2⟩, rfl, q⟩
/-- all(elt for tg in iter) -/
theorem pe_allX {c P : Addr} {elt tg iter : Expr} {scope : Scope} {own : List (Str × Nat)} {p pos gpos : Pos} {wi : TI} {g : TG} {te : TE} {k : Nat}
    (hr : Room (k + 1) X.A) (hgl : Gl X "all") (hm : X.mg "all" = none) (hc : X.calm = true) (hN : X.N.Nodup) (TB : GxR.TabB X.base X.mg c P) (hcode : X.env.code = .ref c) (hi : PI X tg iter wi) (ok : BlkOk X.N X.env.scope scope own) (hcell : ∀ y ∈ scope.names, y.2 ≠ .cell) (hco : scope.isCoroutine = false) (hdot : scope.names.lookup (".0" : Str) = some NameKind.local)
    (hg : ∀ (s : Shared) (H : Hp) (C : Addr) (cl : List (Str × Addr)) (cd : Value) (fp : List Addr) (pn : List (Addr × Obj)) (B : Around), PG (gxc X B s H scope (genEnv scope cl C cd builtinsNs X.env) fp pn) tg g)
    (he : ∀ (s : Shared) (H : Hp) (C : Addr) (cl : List (Str × Addr)) (cd : Value) (fp : List Addr) (pn : List (Addr × Obj)) (B : Around), Room k (B.deeper (genEnv scope cl C cd builtinsNs X.env)) → PE (gxc X B s H scope (genEnv scope cl C cd builtinsNs X.env) fp pn) elt te)
    (hs : ∀ x, genFold iter X.env x = pure x := by intro _; rfl) (hb : bootBuiltins "all" = some (.builtin "all") := by decide +kernel)
    (hst : starEach [.GeneratorExp elt [⟨tg, iter, [], 0⟩] scope gpos] X.env = (false, eval (.GeneratorExp elt [⟨tg, iter, [], 0⟩] scope gpos) X.env) :: starEach [] X.env := by rfl) :
    PE X (.Call (.Name "all" p) [.GeneratorExp elt [⟨tg, iter, [], 0⟩] scope gpos] [] pos) (tGen P false wi g te (own.map (·.2))) := by
  refine ⟨fun pins s σ H Q I h => ?_⟩
  refine wpAny_Call_Name_kw (ld_blt I hgl hm hb ?_)
  refine PyProof.Rows.callWith_builtin1 ?_ hst (by rfl)
  rw [hst]
  show wpAny _ _ (spliced ((false, eval (.GeneratorExp elt [⟨tg, iter, [], 0⟩] scope gpos) X.env) :: backTo pos (starEach [] X.env))) _ _ s
  refine Calls.spliced_cons (gen_eval hr hc hN TB hcode hi ok hcell hco hdot hg he hs I h fun a gn s4 s5 H4 fp m gs I4 f4 hgen hlim hgs hgo => ?_)
  refine Calls.spliced_nil ?_
  refine call_function_tree F.kind_all F.plain_all F.entry_all (F.args_all1 _) ?_
  unfold Builtin.«all»
  refine wpAny_bind (m := oneArg "all" _) (wpAny_pure ?_)
  refine wpAny_bind (wpAny_pyIter_gen hgen ?_)
  exact wpAny_pure ⟨plainId_quiet F.plain_all_loop _, all_gx hr.hd hr.depth (fun b s' os bare fin => gx_end I4 f4 os bare fin) m s5 hgen hlim ⟨gs, hgs, hgo⟩⟩
/-- any(elt for tg in iter) -/
theorem pe_anyX {c P : Addr} {elt tg iter : Expr} {scope : Scope} {own : List (Str × Nat)} {p pos gpos : Pos} {wi : TI} {g : TG} {te : TE} {k : Nat}
    (hr : Room (k + 1) X.A) (hgl : Gl X "any") (hm : X.mg "any" = none) (hc : X.calm = true) (hN : X.N.Nodup) (TB : GxR.TabB X.base X.mg c P) (hcode : X.env.code = .ref c) (hi : PI X tg iter wi) (ok : BlkOk X.N X.env.scope scope own) (hcell : ∀ y ∈ scope.names, y.2 ≠ .cell) (hco : scope.isCoroutine = false) (hdot : scope.names.lookup (".0" : Str) = some NameKind.local)
    (hg : ∀ (s : Shared) (H : Hp) (C : Addr) (cl : List (Str × Addr)) (cd : Value) (fp : List Addr) (pn : List (Addr × Obj)) (B : Around), PG (gxc X B s H scope (genEnv scope cl C cd builtinsNs X.env) fp pn) tg g)
    (he : ∀ (s : Shared) (H : Hp) (C : Addr) (cl : List (Str × Addr)) (cd : Value) (fp : List Addr) (pn : List (Addr × Obj)) (B : Around), Room k (B.deeper (genEnv scope cl C cd builtinsNs X.env)) → PE (gxc X B s H scope (genEnv scope cl C cd builtinsNs X.env) fp pn) elt te)
    (hs : ∀ x, genFold iter X.env x = pure x := by intro _; rfl) (hb : bootBuiltins "any" = some (.builtin "any") := by decide +kernel)
    (hst : starEach [.GeneratorExp elt [⟨tg, iter, [], 0⟩] scope gpos] X.env = (false, eval (.GeneratorExp elt [⟨tg, iter, [], 0⟩] scope gpos) X.env) :: starEach [] X.env := by rfl) :
    PE X (.Call (.Name "any" p) [.GeneratorExp elt [⟨tg, iter, [], 0⟩] scope gpos] [] pos) (tGen P true wi g te (own.map (·.2))) := by
  refine ⟨fun pins s σ H Q I h => ?_⟩
  refine wpAny_Call_Name_kw (ld_blt I hgl hm hb ?_)
  refine PyProof.Rows.callWith_builtin1 ?_ hst (by rfl)
  rw [hst]
  show wpAny _ _ (spliced ((false, eval (.GeneratorExp elt [⟨tg, iter, [], 0⟩] scope gpos) X.env) :: backTo pos (starEach [] X.env))) _ _ s
  refine Calls.spliced_cons (gen_eval hr hc hN TB hcode hi ok hcell hco hdot hg he hs I h fun a gn s4 s5 H4 fp m gs I4 f4 hgen hlim hgs hgo => ?_)
  refine Calls.spliced_nil ?_
  refine call_function_tree F.kind_any F.plain_any F.entry_any (F.args_any1 _) ?_
  unfold Builtin.«any»
  refine wpAny_bind (m := oneArg "any" _) (wpAny_pure ?_)
  refine wpAny_bind (wpAny_pyIter_gen hgen ?_)
  exact wpAny_pure ⟨plainId_quiet F.plain_any_loop _, any_gx hr.hd hr.depth (fun b s' os bare fin => gx_end I4 f4 os bare fin) m s5 hgen hlim ⟨gs, hgs, hgo⟩⟩
end
end Ct
namespace Ct
open PySem PySem.Spec PyProof.Rows L2
/-! walking it -/
def GB (P : Addr) (st : Bool) (J : It) (g : TG) (te : TE) (vs : List Nat) (σ : L2.St) (H : Hp) (Q : VK) : Prop := tGen P st (fun _ H R => R J H) g te vs σ H Q
theorem w_gen {P : Addr} {st : Bool} {wi : TI} {g : TG} {te : TE} {vs : List Nat} {σ : L2.St} {H : Hp} {Q : VK} (h : wi σ H fun J H1 => GB P st J g te vs σ H1 Q) : tGen P st wi g te vs σ H Q := h
theorem gb_it {P : Addr} {st : Bool} {J : It} {n : Nat} {G : Hp → Prop} {Y : Nat → Hp → V → Hp → Prop} (w : Walk J n G Y) {g : TG} {te : TE} {vs : List Nat} {σ : L2.St} {H : Hp} {Q : VK} (Pv : Nat → Hp → Prop) (hT : H P = some (TabX P)) (h0 : Pv 0 H) (hG : ∀ i H1, i ≤ n → Pv i H1 → G H1)
    (hs : ∀ i x H1 H2, i < n → Pv i H1 → Y i H1 x H2 → g x (wipe σ vs) H2 fun σ3 H3 => wipe σ3 vs = wipe σ vs ∧ te σ3 H3 fun y H4 => ∃ b, y = .bl b ∧ if b = st then Q (.bl st) H4 else Pv (i + 1) H4) (hd : ∀ H1, Pv n H1 → Q (.bl (!st)) H1) : GB P st J g te vs σ H Q := by
  refine ⟨hT, fun i m H1 => m = n - i ∧ i ≤ n ∧ Pv i H1, ⟨n, by simp, Nat.zero_le _, h0⟩, ?_⟩
  rintro i m H1 ⟨rfl, hi, p⟩
  have q := hG i H1 hi p
  by_cases hlt : i < n
  · exact .inr ⟨w.goes i H1 hlt q, Pv (i + 1), fun H' p' => ⟨n - (i + 1), by omega, rfl, hlt, p'⟩, fun x H' y => hs i x H1 H' hlt p (w.yields i H1 x H' hlt q y)⟩
  · have e : i = n := by omega
    subst e
    exact .inl ⟨w.stops H1 q, hd H1 p⟩
theorem gb_list {K : PySem.W.Frag} {P : Addr} {st : Bool} {a : Addr} (xs : List V) {g : TG} {te : TE} {vs : List Nat} {σ : L2.St} {H : Hp} {Q : VK} (Pv : Nat → Hp → Prop) (hT : H P = some (TabX P)) (h0 : Pv 0 H) (hl : ∀ i H1, i ≤ xs.length → Pv i H1 → SqL K H1 a xs)
    (hs : ∀ i x H1, xs[i]? = some x → Pv i H1 → g x (wipe σ vs) H1 fun σ3 H3 => wipe σ3 vs = wipe σ vs ∧ te σ3 H3 fun y H4 => ∃ b, y = .bl b ∧ if b = st then Q (.bl st) H4 else Pv (i + 1) H4) (hd : ∀ H1, Pv xs.length H1 → Q (.bl (!st)) H1) : GB P st (Itl K a) g te vs σ H Q :=
  gb_it (walk_list (xs := xs)) Pv hT h0 hl (fun i x H1 H2 _ p y => by
    obtain ⟨e, y⟩ := y
    subst e
    exact hs i x _ y p) hd
theorem gb_tup {K : PySem.W.Frag} {P : Addr} {st : Bool} {a : Addr} (xs : List V) {g : TG} {te : TE} {vs : List Nat} {σ : L2.St} {H : Hp} {Q : VK} (Pv : Nat → Hp → Prop) (hT : H P = some (TabX P)) (h0 : Pv 0 H) (hl : ∀ i H1, i ≤ xs.length → Pv i H1 → SqT K H1 a xs)
    (hs : ∀ i x H1, xs[i]? = some x → Pv i H1 → g x (wipe σ vs) H1 fun σ3 H3 => wipe σ3 vs = wipe σ vs ∧ te σ3 H3 fun y H4 => ∃ b, y = .bl b ∧ if b = st then Q (.bl st) H4 else Pv (i + 1) H4) (hd : ∀ H1, Pv xs.length H1 → Q (.bl (!st)) H1) : GB P st (Itt K a) g te vs σ H Q :=
  gb_it (walk_tup (xs := xs)) Pv hT h0 hl (fun i x H1 H2 _ p y => by
    obtain ⟨e, y⟩ := y
    subst e
    exact hs i x _ y p) hd
/-- the tables of the defs that hold generator expressions -/
def Tb (T : List Addr) (H : Hp) : Prop := ∀ P ∈ T, H P = some (TabX P)
theorem Tb.same {T : List Addr} {H H' : Hp} (h : Tb T H) (s : Same H H') : Tb T H' := fun P hP => s _ _ (h P hP)
/-- a def whose own code object is known -/
theorem okC {P : Program} {w : World} {K : PySem.W.Frag} {mg : Str → Option Value} {base : Heap} {x qual : Str} {st : Stmt} {f : Addr} {fd : FuncData} {N ps : List Str} {k : Nat} {sp : Sp} (F : Fun K x qual st f fd) (S : FnScope N ps (defScope st)) (len : ∀ vs H Q E, sp vs H Q E → vs.length = ps.length)
    (hbody : ∀ (A : Around) (outer : List Env) (s : Shared) (H : Hp) (vs : List V) (Q : VK) (E : XK), Room k (A.deeper (envOfC qual (defScope st) s.heap.objs.size f fd.code)) → sp vs H Q E →
      ∃ t, PSs (cxOf CX0 P w K mg base N qual (defScope st) f fd.code A outer s H E).nox (defBody st) t ∧ t { nx := fun _ H' => Q .non H', rt := Q } (start N vs) H) : FnOk P w K mg base CX0 (k + 1) f fd ps sp := by
  obtain ⟨oc, od, kV, doc, pm, an, cdv, ct, osl, rfl, lk, hcd⟩ := F.ex
  refine fn_of lk hcd S len fun A outer s H vs Q E hr hsp => ?_
  obtain ⟨t, h, q⟩ := hbody A outer s H vs Q E hr hsp
  exact ⟨t, h.nox, q⟩
end Ct

/-! the end of a law whose defs hold generator expressions -/
namespace Ct
open PySem PySem.Spec PyProof.Rows L2
def codeOf : Value → Addr
  | .ref c => c
  | _ => 0
/-- where the table of a code object stands -/
def tabOf (K : PySem.W.Frag) (cd : Value) : Addr := match K.lookup (codeOf cd) with
  | some ⟨_, _, .fields vs, _⟩ => (match (vs : Array Value)[11]? with | some (Value.ref P) => P | _ => 0)
  | _ => 0
def tabOkB (K : PySem.W.Frag) (cd : Value) : Bool := match cd with
  | .ref c => (match K.lookup c with
    | some ⟨_, _, .fields vs, _⟩ => (match (vs : Array Value)[11]? with | some (Value.ref P) => (K.lookup P).isNone | _ => false)
    | _ => false)
  | _ => false
theorem tab_inv {K : PySem.W.Frag} {cd : Value} (h : tabOkB K cd = true) : ∃ e dd vs sl, cd = .ref (codeOf cd) ∧ K.lookup (codeOf cd) = some ⟨e, dd, .fields vs, sl⟩ ∧ vs[11]? = some (.ref (tabOf K cd)) ∧ K.lookup (tabOf K cd) = none := by
  unfold tabOkB at h
  cases cd with
  | ref c =>
    cases q : K.lookup c with
    | none =>
      simp only [q] at h
      cases h
    | some o =>
      obtain ⟨e, dd, dt, sl⟩ := o
      cases dt with
      | fields vs =>
        simp only [q] at h
        cases r : vs[11]? with
        | none =>
          simp only [r] at h
          cases h
        | some u =>
          cases u with
          | ref P =>
            simp only [r] at h
            have t : tabOf K (.ref c) = P := by
              unfold tabOf codeOf
              simp only [q, r]
            refine ⟨e, dd, vs, sl, rfl, q, ?_, ?_⟩
            · rw [t]
              exact r
            · rw [t]
              exact Option.isNone_iff_eq_none.mp h
          | _ =>
            simp only [r] at h
            cases h
      | _ =>
        simp only [q] at h
        cases h
  | _ => cases h
/-- a def that is called on the script -/
def RunOk (P : Program) (w : World) (K : PySem.W.Frag) (mg : Str → Option Value) (base : Heap) (fa : Addr) (fd : FuncData) (x : Str) (sp : Sp) : Prop :=
  ∀ (z : Shared) (H : Hp) (ws : List Value) (vs : List V) (Q : VK) (E : XK), Env0 P w K mg base callerA [] z H → BindsTo z fd ⟨ws, []⟩ ([x].zip ws) → Vals vs ws → sp vs H Q E → codeAny (model P w) callerA (.call (.ref fa) ⟨ws, []⟩) (CR CX0 [] P w H z Q E) z
theorem law_callX {P : Program} {w : World} {K : PySem.W.Frag} {mg mb : Str → Option Value} {fa a : Addr} {cs : List (Addr × Addr)} {fd : FuncData} {x : Str} {sp : Sp} {s₁ : Shared} {vs : List Value} {ns : List Int}
    (KX : K.In s₁.heap) (hns : s₁.heap.Ns mainGlobals mg) (hb : s₁.heap.Ns builtinsNs mb) (hbb : ∀ x : Str, x ≠ "__name__" → mb x = bootBuiltins x) (hlim : s₁.heap.NoLimit) (hg : s₁.gens = #[])
    (hT : ∀ p ∈ cs, s₁.heap.get? p.2 = some { cls := .none, data := .fields #[] }) (nT : ∀ p ∈ cs, K.lookup p.2 = none) (C : ∀ p ∈ cs, PySem.W.CodeHd s₁.heap p.1 p.2)
    (hbm : ∃ (bm : Addr) (ob : Obj), mg "__builtins__" = some (.ref bm) ∧ bm ≠ builtinsNs ∧ s₁.heap.get? bm = some ob ∧ ob.cls = .type "module" ∧ ob.dict = some builtinsNs ∧ ob.data = .plain)
    (ha : s₁.heap.get? a = some { cls := .type "list", data := .seq vs.toArray }) (hi : IntsAre vs ns) (hl : ns.length ≤ sizeLine)
    (F : ∀ base : Heap, K.In base → base.Ns mainGlobals mg → (∀ p ∈ cs, GxR.TabB base mg p.1 p.2) → RunOk P w K mg base fa fd x sp) (hbind : ∀ (s : Shared) (u : Value), BindsTo s fd ⟨[u], []⟩ [(x, u)])
    (hsp : ∀ H : Hp, (∀ p ∈ cs, H p.2 = some (TabX p.2)) → SqL K H a (ns.map V.int) → sp [.ref a] H (fun v H' => v = .bl true ∧ Same H H') fun _ _ _ => False) :
    codeAny (model P w) callerA (.call (.ref fa) ⟨[.ref a], []⟩) (fun r s' => r = .ok (.ret (.bool true)) ∧ OldK s₁.heap s'.heap ∧ s'.os = s₁.os ∧ AllBare s'.gens) s₁ := by
  have rv := vals_ints hi
  have lenV := hi.length
  have isT : ∀ b : Addr, b ∈ cs.map (·.2) → s₁.heap.get? b = some { cls := .none, data := .fields #[] } := fun b hb => by
    obtain ⟨p, hp, e⟩ := List.mem_map.mp hb
    rw [← e]
    exact hT p hp
  have aT : a ∉ cs.map (·.2) := fun z => by
    have q := isT a z
    rw [ha] at q
    have z' : Data.seq vs.toArray _ = Data.fields #[] := congrArg Obj.data (Option.some.inj q)
    cases z'
  have memT : ∀ p ∈ cs, p.2 ∈ cs.map (·.2) := fun p hp => List.mem_map.mpr ⟨p, hp, rfl⟩
  have core : ∀ H : Hp, (∀ b, b ∈ cs.map (·.2) → H b = some (TabX b)) → (∀ b, H b = none ∨ b ∈ cs.map (·.2) ∨ ∃ o xs, H b = some (.frz o (.lst xs))) → SqL K H a (ns.map V.int) → HOk P w H s₁.heap → (∀ b, H b ≠ none → b = a ∨ b ∈ cs.map (·.2)) → (H a ≠ none → K.lookup a = none) →
      codeAny (model P w) callerA (.call (.ref fa) ⟨[.ref a], []⟩) (fun r s' => r = .ok (.ret (.bool true)) ∧ OldK s₁.heap s'.heap ∧ s'.os = s₁.os ∧ AllBare s'.gens) s₁ := by
    intro H hH hO hS hok hA hK
    have base_of : ∀ {b : Addr} {o : Obj}, s₁.heap.get? b = some o → H b = none → (hidT s₁.heap H).get? b = some o := fun e n => hidT_get e n
    have noD : ∀ {b : Addr} {o : Obj}, s₁.heap.get? b = some o → (∀ vs n, o.data ≠ .seq vs n) → o.data ≠ .fields #[] → H b = none := fun {b o} e h1 h2 => by
      cases q : H b with
      | none => rfl
      | some u =>
        rcases hA b (by rw [q]; simp) with e' | e'
        · rw [e', ha] at e
          cases e
          exact (h1 _ _ rfl).elim
        · rw [isT b e'] at e
          cases e
          exact (h2 rfl).elim
    have noA : ∀ {b : Addr} {o : Obj} {es : Array DictEntry} {ep : Nat}, s₁.heap.get? b = some o → o.data = .dict es ep → H b = none := fun {b o es ep} e d => by
      refine noD e (fun vs n z => ?_) fun z => ?_
      · rw [d] at z
        cases z
      · rw [d] at z
        cases z
    have nsK : ∀ {b : Addr} {m : Str → Option Value}, s₁.heap.Ns b m → (hidT s₁.heap H).Ns b m := fun {b m} ⟨o, es, ep, e, d, r⟩ => ⟨o, es, ep, base_of e (noA e d), d, r⟩
    have hKb : K.In (hidT s₁.heap H) := fun b o e => base_of (KX b o e) (by
      cases q : H b with
      | none => rfl
      | some u =>
        rcases hA b (by rw [q]; simp) with e' | e'
        · rw [e'] at e q
          rw [hK (by rw [q]; simp)] at e
          cases e
        · obtain ⟨p, hp, ep⟩ := List.mem_map.mp e'
          rw [← ep, nT p hp] at e
          cases e)
    have hM : L2.Mod K mg (hidT s₁.heap H) := ⟨hKb, nsK hns, ⟨mb, nsK hb, hbb⟩, let ⟨mc, h1, h2⟩ := hlim; ⟨mc, nsK h1, h2⟩⟩
    have TB : ∀ p ∈ cs, GxR.TabB (hidT s₁.heap H) mg p.1 p.2 := fun p hp => by
      have hTp := hT p hp
      refine ⟨?_, ?_, fun z => ?_⟩
      · obtain ⟨o, us, file, tf, flags, tg, inF, text, tt, e1, r1, r2, r3, r4, r5, r6, r7, r8, hne⟩ := C p hp
        refine ⟨o, us, file, tf, flags, tg, inF, text, tt, base_of e1 (noD e1 (fun vs n z => ?_) fun z => ?_), r1, r2, r3, r4, r5, r6, r7, r8, hne⟩
        · rw [r2] at z
          cases z
        · rw [r2] at z
          cases z
          simp at r3
      · obtain ⟨bm, ob, b1, b2, b3, b4, b5, b6⟩ := hbm
        have nG : bm ≠ mainGlobals := fun q => by
          obtain ⟨o, es, ep, e, hd, _⟩ := hns
          rw [q, e] at b3
          cases b3
          rw [hd] at b6
          cases b6
        have nP : bm ≠ p.2 := fun q => by
          rw [q, hTp] at b3
          cases b3
          cases b6
        refine ⟨bm, ob, b1, b2, nG, nP, base_of b3 (noD b3 (fun vs n z => ?_) fun z => ?_), b4, b5, b6⟩
        · rw [b6] at z
          cases z
        · rw [b6] at z
          cases z
      · obtain ⟨o, es, ep, e, hd, _⟩ := hns
        rw [z, hTp] at e
        cases e
        cases hd
    have e0 : Env0 P w K mg (hidT s₁.heap H) callerA [] s₁ H := ⟨rfl, hM, fun b o e => of_hidT e, Nat.le_of_eq (hidT_size _ _), trivial, fun b hb => absurd (show b ∈ ([] : List Addr) from hb) (by simp), hok, .of_eq hg⟩
    refine codeAny_mono (F _ hKb (nsK hns) TB s₁ H [.ref a] [.ref a] _ _ e0 (hbind s₁ (.ref a)) (.cons rfl .nil) (hsp H (fun p hp => hH _ (memT p hp)) hS)) fun r s' h => ?_
    cases r with
    | error e => exact (show False from h).elim
    | ok fl =>
      cases fl with
      | next => exact False.elim h
      | brk => exact False.elim h
      | cont => exact False.elim h
      | ret u =>
        obtain ⟨v, H', os, bare, un, hok', r', q, sm⟩ := h
        subst q
        obtain rfl : u = Value.bool true := r'
        have key : ∀ b o, b ∉ cs.map (·.2) → s₁.heap.get? b = some o → s'.heap.get? b = some o := fun b o nb e => by
          cases q : H b with
          | none => exact un.keep b o e q (by intro z; exact absurd (show b ∈ ([] : List Addr) from z) (by simp)) (by simp)
          | some u =>
            rcases hO b with z | z | ⟨ob, xs, z⟩
            · rw [q] at z; cases z
            · exact absurd z nb
            · have z2 := un.frzs b ob _ z
              obtain ⟨e1, _⟩ := hok b _ z
              obtain ⟨e2, _⟩ := hok' b _ z2
              rw [e] at e1; cases e1
              exact e2
        have grown : ∀ p ∈ cs, ∃ more : Array Value, s'.heap.get? p.2 = some { cls := .none, data := .fields more } := fun p hp => by
          obtain ⟨⟨more, z, _⟩, _⟩ := hok' p.2 _ (sm _ _ (hH _ (memT p hp)))
          exact ⟨_, z⟩
        refine ⟨rfl, ⟨fun b o e => ?_, fun b o e => ?_⟩, os, bare⟩
        · by_cases hb : b ∈ cs.map (·.2)
          · obtain ⟨p, hp, ep⟩ := List.mem_map.mp hb
            obtain ⟨more, hm⟩ := grown p hp
            rw [← ep] at e ⊢
            rw [hT p hp] at e
            cases e
            exact .inr (.inl ⟨((C p hp).tab (hT p hp)).isCodeTable, rfl, #[], more, rfl, by rw [Array.empty_append]; exact hm⟩)
          · exact .inl (key b o hb e)
        · by_cases hb : b ∈ cs.map (·.2)
          · obtain ⟨p, hp, ep⟩ := List.mem_map.mp hb
            obtain ⟨more, hm⟩ := grown p hp
            rw [← ep]
            exact ⟨_, hm⟩
          · exact ⟨o, key b o hb e⟩
  cases hk : K.lookup a with
  | some o =>
    have e := KX a o hk
    rw [ha] at e
    cases e
    refine core (fun b => if b ∈ cs.map (·.2) then some (TabX b) else none) (fun b hb => if_pos hb) (fun b => ?_) (.inr ⟨_, vs.toArray, _, hk, rfl, rfl, rfl, by rw [List.size_toArray, lenV]; exact hl, by simpa using rv⟩) (fun b u z => ?_) (fun b z => ?_) fun z => absurd (show (if a ∈ cs.map (·.2) then some (TabX a) else none) = none from if_neg aT) z
    · by_cases hb : b ∈ cs.map (·.2)
      · exact .inr (.inl hb)
      · exact .inl (if_neg hb)
    · by_cases hb : b ∈ cs.map (·.2)
      · have z' := (if_pos hb).symm.trans z
        cases z'
        exact tabx_ok (isT b hb) True.intro
      · have z' := (if_neg hb).symm.trans z
        cases z'
    · by_cases hb : b ∈ cs.map (·.2)
      · exact .inr hb
      · exact absurd (if_neg hb) z
  | none =>
    refine core (fun b => if b = a then some (.frz { cls := .type "list", data := .seq vs.toArray } (.lst (ns.map V.int))) else if b ∈ cs.map (·.2) then some (TabX b) else none) (fun b hb => (if_neg (show ¬ b = a from fun z => aT (by rw [← z]; exact hb))).trans (if_pos hb)) (fun b => ?_)
      (.inl (.inr ⟨{ cls := .type "list", data := .seq vs.toArray }, if_pos rfl⟩)) (fun b u z => ?_) (fun b z => ?_) fun _ => hk
    · by_cases hb : b = a
      · exact .inr (.inr ⟨_, _, if_pos hb⟩)
      · by_cases hb2 : b ∈ cs.map (·.2)
        · exact .inr (.inl hb2)
        · exact .inl ((if_neg hb).trans (if_neg hb2))
    · by_cases hb : b = a
      · have z' := (if_pos hb).symm.trans z
        cases z'
        rw [hb]
        exact ⟨ha, by rw [List.length_map]; exact hl, vs, _, rv, ha⟩
      · have z1 := (if_neg hb).symm.trans z
        by_cases hb2 : b ∈ cs.map (·.2)
        · have z' := (if_pos hb2).symm.trans z1
          cases z'
          exact tabx_ok (isT b hb2) True.intro
        · have z' := (if_neg hb2).symm.trans z1
          cases z'
    · by_cases hb : b = a
      · exact .inl hb
      · by_cases hb2 : b ∈ cs.map (·.2)
        · exact .inr hb2
        · exact absurd ((if_neg hb).trans (if_neg hb2)) z
/-- what is known of the law's promise: cs, the defs that hold generator expressions and their code objects -/
def LawAtX (l : PySem.W.OpenLaw) (w : World) (K : PySem.W.Frag) (n : Nat) (x : Str) (mg : Str → Option Value) (fa : Addr) (defs : List Str) : Prop :=
  ∃ (fd : FuncData) (cs : List (Str × Value)) (sp : Sp), (∀ p ∈ cs, p.1 ∈ defs ∧ ∃ (f : Addr) (oc : Value) (od : Option Addr) (fdx : FuncData) (osl : Array (Option Value)), mg p.1 = some (.ref f) ∧ K.lookup f = some ⟨oc, od, .func fdx, osl⟩ ∧ fdx.code = p.2 ∧ tabOkB K p.2 = true) ∧ (∀ (s : Shared) (u : Value), BindsTo s fd ⟨[u], []⟩ [(x, u)]) ∧
    (∀ (H : Hp) (a : Addr) (ns : List Int), ns.length ≤ n → (∀ p ∈ cs, H (tabOf K p.2) = some (TabX (tabOf K p.2))) → SqL K H a (ns.map V.int) → sp [.ref a] H (fun v H' => v = .bl true ∧ Same H H') fun _ _ _ => False) ∧
    ∀ base : Heap, K.In base → base.Ns mainGlobals mg → (∀ p ∈ cs, GxR.TabB base mg (codeOf p.2) (tabOf K p.2)) → RunOk l.prog w K mg base fa fd x sp
theorem walk_ofX {l : PySem.W.OpenLaw} {n : Nat} {q : Program} {loose : List Str} {XP : (Str → Option Value) → Heap → Prop} {YP : World → Heap → Prop} {d : DefRec} {K : Params → PySem.W.Frag} {x : Str} {defs : List Str}
    (hn : l.most = some n) (hn2 : n ≤ sizeLine) (hdf : d.params.defaults = []) (hrec : (defs.all fun y => (recsOf q).any fun e => e.name == y) = true) (hY : ∀ (w : World) (h : Heap), YP w h → (K w.params).In h)
    (F : ∀ (w : World) (mg : Str → Option Value) (fa : Addr) (h : Heap), (K w.params).In h → h.Ns mainGlobals mg → mg d.name = some (.ref fa) → LawAtX l w (K w.params) n x mg fa defs) :
    PySem.W.WalkO q loose XP YP l.row.toRowW d [] (fun f vs => PySem.call f vs) := by
  refine Att.attach_callB hn hdf fun w s₀ s₁ mg mb fa o pm cd doc a vs ns G Y ho hd hcd hmg hobj hints hlen hbits hg => ?_
  have KX := hY w _ Y
  obtain ⟨fd, cs, sp, hcs, hb, hsp, hF⟩ := F w mg fa _ KX G.T.g hmg
  have facts : ∀ p ∈ cs, s₁.heap.get? (tabOf (K w.params) p.2) = some { cls := .none, data := .fields #[] } ∧ (K w.params).lookup (tabOf (K w.params) p.2) = none ∧ PySem.W.CodeHd s₁.heap (codeOf p.2) (tabOf (K w.params) p.2) := fun p hp => by
    obtain ⟨hm, f, oc, od, fdx, osl, g1, g2, g3, g4⟩ := hcs p hp
    obtain ⟨e, dd, us, sl, t1, t2, t3, t4⟩ := tab_inv g4
    obtain ⟨dL, hdm, hn1⟩ := List.any_eq_true.mp (List.all_eq_true.mp hrec _ hm)
    have hn2 : dL.name = p.1 := beq_iff_eq.mp hn1
    obtain ⟨a', o', fd', c', P', h1, h2, h3, h4, h5, h6⟩ := G.T.tab dL hdm
    rw [hn2, g1] at h1
    cases h1
    rw [KX _ _ g2] at h2
    cases h2
    cases h3
    rw [g3, t1] at h4
    cases h4
    obtain ⟨⟨ob, vc, e1, e2, e3, e4⟩, hP⟩ := id h6
    rw [KX _ _ t2] at e1
    cases e1
    cases e3
    rw [t3] at e4
    cases e4
    exact ⟨hP, t4, .of h5 h6⟩
  refine law_callX (cs := cs.map fun p => (codeOf p.2, tabOf (K w.params) p.2)) KX G.T.g G.T.b G.T.builtins G.T.nolimit hg ?_ ?_ ?_ G.T.bmain hobj hints (Nat.le_trans hlen hn2) (fun base h1 h2 h3 => hF base h1 h2 fun p hp => h3 _ (List.mem_map.mpr ⟨p, hp, rfl⟩)) hb fun H hH hS => hsp H a ns hlen (fun p hp => hH _ (List.mem_map.mpr ⟨p, hp, rfl⟩)) hS
  · intro p hp
    obtain ⟨q, hq, rfl⟩ := List.mem_map.mp hp
    exact (facts q hq).1
  · intro p hp
    obtain ⟨q, hq, rfl⟩ := List.mem_map.mp hp
    exact (facts q hq).2.1
  · intro p hp
    obtain ⟨q, hq, rfl⟩ := List.mem_map.mp hp
    exact (facts q hq).2.2
theorem RunOk.of {P : Program} {w : World} {K : PySem.W.Frag} {mg : Str → Option Value} {base : Heap} {k : Nat} {fa : Addr} {fd : FuncData} {x : Str} {sp : Sp} (hr : Room k callerA) (F : FnOk P w K mg base CX0 k fa fd [x] sp) : RunOk P w K mg base fa fd x sp :=
  fun z H ws vs Q E e b r h => F.run callerA [] z H ⟨ws, []⟩ ws vs Q E hr e b r h
end Ct

/-! a list of draws: a number, how often it was drawn from, a truth; it is written -/
namespace Ct
open PySem PySem.Spec PyProof.Rows L2
def DrO (a : Addr) (c : Nat) : HO := .ext fun h => ∃ (n : Int) (b : Bool) (its : List Value) (m : Nat), Vals [.int n, .int (c : Int), .bl b] its ∧ h.get? a = some { cls := .type "list", data := .seq its.toArray m }
theorem drO_ok {P : Program} {w : World} {H : Hp} {h : Heap} {a : Addr} {c : Nat} {n : Int} {b : Bool} {its : List Value} {m : Nat} (r : Vals [.int n, .int (c : Int), .bl b] its) (e : h.get? a = some { cls := .type "list", data := .seq its.toArray m }) : ObjOk P w H h a (DrO a c) :=
  ⟨⟨n, b, its, m, r, e⟩, ⟨_, e⟩, fun _ _ ⟨n, b, its, m, r, e⟩ keep => ⟨n, b, its, m, r, keep _ e⟩⟩
section
variable {X : Cx}
theorem dr_get {pins : List (Addr × Obj)} {σ : L2.St} {H : Hp} {s : Shared} {p : Addr} {c : Nat} (I : Inv X pins σ H s) (h : H p = some (DrO p c)) : ∃ (n : Int) (b : Bool) (its : List Value) (m : Nat), Vals [.int n, .int (c : Int), .bl b] its ∧ s.heap.get? p = some { cls := .type "list", data := .seq its.toArray m } :=
  (show ObjOk X.prog X.w H s.heap p (DrO p c) from I.hok p _ h).1
def rIxDr : R2 := fun x y H Q => ∃ (p : Addr) (i : Int) (c : Nat), x = .ref p ∧ y = .int i ∧ H p = some (DrO p c) ∧ (i = 0 ∧ (∀ n : Int, Q (.int n) H) ∨ i = 1 ∧ Q (.int (c : Int)) H ∨ i = 2 ∧ ∀ b, Q (.bl b) H)
theorem ix_dr : IxR X rIxDr := by
  intro value slice pins s σ H x y v u Q I rx ry h hs
  obtain ⟨p, i, c, rfl, rfl, hp, q⟩ := h
  cases rx
  obtain ⟨t, rfl⟩ := ry
  obtain ⟨n, b, its, m, r, e⟩ := dr_get I hp
  have pl : PlainL s.heap p its.toArray := ⟨_, m, e, rfl, rfl, rfl⟩
  have hl := r.length
  have hn := line63
  rcases q with ⟨rfl, q⟩ | ⟨rfl, q⟩ | ⟨rfl, q⟩
  · obtain ⟨w, ew, rw'⟩ := r.get (i := 0) (x := .int n) rfl
    exact item_listR pl.isList (by decide) (by omega) (by simpa using ew) ⟨.int n, H, I, rw', q n⟩ hs
  · obtain ⟨w, ew, rw'⟩ := r.get (i := 1) (x := .int (c : Int)) rfl
    exact item_listR pl.isList (by decide) (by omega) (by simpa using ew) ⟨.int (c : Int), H, I, rw', q⟩ hs
  · obtain ⟨w, ew, rw'⟩ := r.get (i := 2) (x := .bl b) rfl
    exact item_listR pl.isList (by decide) (by omega) (by simpa using ew) ⟨.bl b, H, I, rw', q b⟩ hs
def rSetDr : V → V → V → Hp → (Hp → Prop) → Prop := fun o i v H Q => ∃ (p : Addr) (k : Int) (c : Nat), o = .ref p ∧ i = .int k ∧ H p = some (DrO p c) ∧ (k = 0 ∧ (∃ n : Int, v = .int n) ∧ Q (upd H p (DrO p c)) ∨ k = 1 ∧ ∃ c' : Nat, v = .int (c' : Int) ∧ Q (upd H p (DrO p c')))
theorem dr_write {pins : List (Addr × Obj)} {σ : L2.St} {H : Hp} {s : Shared} {p : Addr} {c c' : Nat} {its its' : List Value} {m m' : Nat} {f : Obj → Obj} {n : Int} {b : Bool} (I : Inv X pins σ H s) (h : H p = some (DrO p c))
    (ho : s.heap.get? p = some { cls := .type "list", data := .seq its.toArray m }) (hf : f { cls := .type "list", data := .seq its.toArray m } = { cls := .type "list", data := .seq its'.toArray m' }) (r : Vals [.int n, .int (c' : Int), .bl b] its') (t : Nat) :
    Inv X pins σ (upd H p (DrO p c')) { s with heap := s.heap.update p f, toks := t } := by
  have e : (s.heap.update p f).get? p = some { cls := .type "list", data := .seq its'.toArray m' } := by
    rw [Heap.get?_update_self f ho (by rw [hf] <;> rfl), hf]
  exact I.write (x := p) (e := p) (by rw [h]; trivial) (.inl rfl) (fun b u hb q => (Heap.get?_update_other _ _ (Ne.symm hb)).trans q) ⟨_, e⟩ (drO_ok r e)
theorem set_dr : PSet X rSetDr := by
  intro pins s σ H o i v ov iv u Q I ro ri rv h
  obtain ⟨p, k, c, rfl, rfl, hp, q⟩ := h
  cases ro
  obtain ⟨t, rfl⟩ := ri
  obtain ⟨n, b, its, m, r, e⟩ := dr_get I hp
  have hl := r.length
  have hn := line63
  rcases q with ⟨rfl, ⟨n', rfl⟩, q⟩ | ⟨rfl, c', rfl, q⟩
  · have I' := dr_write I hp e (mapSeq_set its m 0 u) (r.set rv 0) s.toks
    exact PySem.W.ki_setAt e (by decide) (by omega) (by rw [List.size_toArray, ← hl]; show (0 : Int) < ((3 : Nat) : Int); decide) ⟨_, I', q⟩
  · have I' := dr_write I hp e (mapSeq_set its m 1 u) (r.set rv 1) s.toks
    exact PySem.W.ki_setAt e (by decide) (by omega) (by rw [List.size_toArray, ← hl]; show (1 : Int) < ((3 : Nat) : Int); decide) ⟨_, I', q⟩
def tLstDr (t : TA) : TE := fun σ H Q => t σ H fun xs H1 => ∃ (n : Int) (c : Nat) (b : Bool), xs = [.int n, .int (c : Int), .bl b] ∧ ∀ p, H1 p = none → Q (.ref p) (upd H1 p (DrO p c))
theorem pe_lstDr {es : List Expr} {t : TA} {pos : Pos} (h : PA X es t) : PE X (.List es pos) (tLstDr t) := by
  refine ⟨fun pins s σ H Q I hq => ?_⟩
  refine wpAny_List_spliced (thn (h.run pos pins s σ H _ I hq) fun us s1 ⟨xs, H1, I1, r, n, c, b, ex, q⟩ => ?_)
  subst ex
  refine ⟨by rw [← r.length]; show 3 ≤ sizeLine; decide, ?_⟩
  have hf : H1 s1.heap.objs.size = none := I1.hok.fresh (Nat.le_refl _)
  exact ⟨.ref s1.heap.objs.size, upd H1 s1.heap.objs.size (DrO _ c), I1.laid (t' := s1.toks) (fun b u e => Heap.get?_push_of_some _ e) (Nat.le_refl _) (drO_ok r (Heap.get?_push_size _ rfl)), rfl, q _ hf⟩
end
section
variable {H : Hp} {σ : L2.St} {Q : VK}
theorem w_lstDr {t : TA} (h : t σ H fun xs H1 => ∃ (n : Int) (c : Nat) (b : Bool), xs = [.int n, .int (c : Int), .bl b] ∧ ∀ p, H1 p = none → Q (.ref p) (upd H1 p (DrO p c))) : tLstDr t σ H Q := h
theorem w_dr0 {p : Addr} {c : Nat} (h : H p = some (DrO p c)) (q : ∀ n : Int, Q (.int n) H) : rIxDr (.ref p) (.int 0) H Q := ⟨p, 0, c, rfl, rfl, h, .inl ⟨rfl, q⟩⟩
theorem w_dr1 {p : Addr} {c : Nat} (h : H p = some (DrO p c)) (q : Q (.int (c : Int)) H) : rIxDr (.ref p) (.int 1) H Q := ⟨p, 1, c, rfl, rfl, h, .inr (.inl ⟨rfl, q⟩)⟩
theorem w_dr2 {p : Addr} {c : Nat} (h : H p = some (DrO p c)) (q : ∀ b, Q (.bl b) H) : rIxDr (.ref p) (.int 2) H Q := ⟨p, 2, c, rfl, rfl, h, .inr (.inr ⟨rfl, q⟩)⟩
end
/-- the draws at D were drawn from, c times by now; all else that was tracked stays -/
def Dr (D : Addr) (c : Nat) (H H' : Hp) : Prop := But D H H' ∧ H' D = some (DrO D c)
theorem Dr.refl {D : Addr} {c : Nat} {H : Hp} (h : H D = some (DrO D c)) : Dr D c H H := ⟨But.refl, h⟩
theorem Dr.next {D : Addr} {c : Nat} {H H' : Hp} (h : Dr D c H H') (c' : Nat) : Dr D c' H (upd H' D (DrO D c')) := ⟨h.1.trans but_upd, upd_same⟩
theorem Dr.same {D : Addr} {c : Nat} {H H' H2 : Hp} (h : Dr D c H H') (s : Same H' H2) : Dr D c H H2 := ⟨h.1.trans (but_same s), s _ _ h.2⟩
theorem Dr.trans {D : Addr} {c c' : Nat} {H H' H2 : Hp} (h : Dr D c H H') (g : Dr D c' H' H2) : Dr D c' H H2 := ⟨h.1.trans g.1, g.2⟩
theorem Dr.ext {D : Addr} {c : Nat} {H H' : Hp} (h : Dr D c H H') : Ext H' D := ⟨_, h.2⟩
theorem drO_ext {D : Addr} {c : Nat} {H : Hp} (h : H D = some (DrO D c)) : Ext H D := ⟨_, h⟩
theorem Dr.free {D : Addr} {c : Nat} {H H' : Hp} (h : Dr D c H H') {a : Addr} (n : H' a = none) : H a = none := by
  cases e : H a with
  | none => rfl
  | some o =>
    by_cases z : a = D
    · rw [z, h.2] at n
      cases n
    · rw [h.1 a o z e] at n
      cases n
/-- a list made in between is not the draws -/
theorem Dr.at {D l : Addr} {c c' : Nat} {H H' : Hp} {o : HO} (h : Dr D c H H') (hD : H D = some (DrO D c')) (hl : H l = some o) (ne : ∀ f, o ≠ .ext f := by intro f z; cases z) : H' l = some o :=
  h.1 l o (fun z => by rw [z, hD] at hl; exact ne _ (Option.some.inj hl).symm) hl
/-- a list made since is written -/
theorem Dr.put {D l : Addr} {c : Nat} {H H' : Hp} {o o' : HO} (h : Dr D c H H') (n : H l = none) (hl : H' l = some o) (ne : ∀ f, o ≠ .ext f := by intro f z; cases z) : Dr D c H (upd H' l o') := by
  have lD : l ≠ D := fun z => by rw [z, h.2] at hl; exact ne _ (Option.some.inj hl).symm
  refine ⟨fun a u na ha => ?_, by rw [upd_ne lD.symm]; exact h.2⟩
  rw [upd_ne (fun z => by rw [z, n] at ha; cases ha)]
  exact h.1 a u na ha
theorem rep_flat (w : V) : ∀ k : Nat, (List.replicate k [w]).flatten = List.replicate k w
  | 0 => rfl
  | k + 1 => by
    rw [List.replicate_succ, List.flatten_cons, rep_flat w k, List.replicate_succ]
    rfl
theorem cut_toB (xs : List V) (k : Nat) : cutV xs none (some (k : Int)) = xs.take k := by
  unfold cutV
  rw [HT.sIx_none, HT.sIx_nat, List.drop_zero, Nat.sub_zero]
  by_cases h : k ≤ xs.length
  · rw [Nat.min_eq_left h]
  · rw [Nat.min_eq_right (by omega), List.take_length, List.take_of_length_le (by omega)]
/-- a show: a way, and what was shown -/
def sh2D (s : Int × Int) : PyData := .tuple [.int s.1, .int s.2]
def Sh2Ok (s : Int × Int) : Prop := Sign s.1 ∧ (s.2 = 0 ∨ Sign s.2)
theorem sh2_inv {K : PySem.W.Frag} {H : Hp} {v : V} {s : Int × Int} (h : Dp K H v (sh2D s)) : ∃ a, v = .ref a ∧ SqT K H a [.int s.1, .int s.2] := by
  obtain ⟨a, vs, rfl, h1, h2⟩ := tup_inv h
  cases dpAll_ints_inv [s.1, s.2] h2
  exact ⟨a, rfl, h1⟩
theorem sh2_dp {K : PySem.W.Frag} {H : Hp} {a : Addr} {s : Int × Int} (h : SqT K H a [.int s.1, .int s.2]) : Dp K H (.ref a) (sh2D s) := .tup h (.cons (.int _) (.cons (.int _) .nil))
theorem sh2_upd {K : PySem.W.Frag} {H : Hp} {l : Addr} {ws : List V} {o : HO} (hl : H l = some (.lst ws)) {v : V} {s : Int × Int} (h : Dp K H v (sh2D s)) : Dp K (upd H l o) v (sh2D s) := by
  obtain ⟨g, rfl, hg⟩ := sh2_inv h
  exact sh2_dp (sqT_upd hg hl)
theorem sh2s_upd {K : PySem.W.Frag} {H : Hp} {l : Addr} {ws : List V} {o : HO} (hl : H l = some (.lst ws)) : ∀ {vs : List V} {ss : List (Int × Int)}, DpAll K H vs (ss.map sh2D) → DpAll K (upd H l o) vs (ss.map sh2D)
  | _, [], .nil => .nil
  | _, s :: ss, .cons h t => .cons (sh2_upd hl h) (sh2s_upd hl t)
theorem lay_sh2s (ss : List (Int × Int)) : (PyData.list (ss.map sh2D)).canLay0 = true ∧ (PyData.list (ss.map sh2D)).depth ≤ 2 := lay_lst fun d hd => by
  obtain ⟨w, _, rfl⟩ := List.mem_map.mp hd
  exact lay_tup (n := 0) (lay_ints [w.1, w.2] 0)
theorem Dr.step {D : Addr} {c : Nat} {H : Hp} (h : H D = some (DrO D c)) (c' : Nat) : Dr D c' H (upd H D (DrO D c')) := (Dr.refl h).next c'
theorem Dr.all {K : PySem.W.Frag} {D : Addr} {c c' : Nat} {H H' : Hp} (d : Dr D c' H H') (h : H D = some (DrO D c)) {vs : List V} {ds : List PyData} (x : DpAll K H vs ds) : DpAll K H' vs ds := dpAll_but (drO_ext h) d.1 x
/-- a pass: what came, at which tooth, what was shown -/
abbrev Pass := Int × Int × Int
def passD (s : Pass) : PyData := .tuple [.int s.1, .int s.2.1, .int s.2.2]
theorem pass_inv {K : PySem.W.Frag} {H : Hp} {v : V} {s : Pass} (h : Dp K H v (passD s)) : ∃ a, v = .ref a ∧ SqT K H a [.int s.1, .int s.2.1, .int s.2.2] := by
  obtain ⟨a, vs, rfl, h1, h2⟩ := tup_inv h
  cases dpAll_ints_inv [s.1, s.2.1, s.2.2] h2
  exact ⟨a, rfl, h1⟩
def unlk (p q : Pass) : Bool := !decide (p.1 = 0) && (!decide (q.1 = 0) && (decide (p.2.2 = 0) != decide (q.2.2 = 0)))
/-- two passes at the same tooth that are unlike -/
def Hit (ps : List Pass) (t : Int) (j k : Nat) : Prop := ∃ p q : Pass, ps[j]? = some p ∧ ps[k]? = some q ∧ p.2.1 % t = q.2.1 % t ∧ unlk p q = true
def NoHit (ps : List Pass) (t : Int) (n : Nat) : Prop := ∀ j k, j < k → k < n → ¬ Hit ps t j k
theorem unlk_came {p q : Pass} (h : unlk p q = true) : p.1 ≠ 0 ∧ q.1 ≠ 0 ∧ (decide (p.2.2 = 0) ≠ decide (q.2.2 = 0)) := by
  unfold unlk at h
  simp only [Bool.and_eq_true, Bool.not_eq_true', decide_eq_false_iff_not, bne_iff_ne, ne_eq] at h
  exact ⟨h.1, h.2.1, h.2.2⟩
theorem unlk_of {p q : Pass} (h1 : p.1 ≠ 0) (h2 : q.1 ≠ 0) (h : unlk p q = false) : decide (p.2.2 = 0) = decide (q.2.2 = 0) := by
  unfold unlk at h
  rw [decide_eq_false h1, decide_eq_false h2] at h
  simpa using h
theorem unlk_self (p : Pass) : unlk p p = false := by
  unfold unlk
  simp
/-- what is kept of the first n passes: the first one at each tooth -/
structure Kept (ps : List Pass) (t : Int) (n : Nat) (kvs : List (Key × V)) : Prop where
  is : ∀ r v, valV kvs (Sum.inl r) = some v → ∃ (j : Nat) (p : Pass), v = .int (j : Int) ∧ j < n ∧ ps[j]? = some p ∧ p.1 ≠ 0 ∧ p.2.1 % t = r ∧ ∀ i q, i < j → ps[i]? = some q → q.1 ≠ 0 → q.2.1 % t ≠ r
  no : ∀ r, valV kvs (Sum.inl r) = none → ∀ i q, i < n → ps[i]? = some q → q.1 ≠ 0 → q.2.1 % t ≠ r
theorem Kept.skip {ps : List Pass} {t : Int} {n : Nat} {kvs : List (Key × V)} (h : Kept ps t n kvs) {q : Pass} (hq : ps[n]? = some q) (z : q.1 = 0) : Kept ps t (n + 1) kvs := by
  refine ⟨fun r v e => ?_, fun r e i p hi hp hn => ?_⟩
  · obtain ⟨j, p, h1, h2, h3⟩ := h.is r v e
    exact ⟨j, p, h1, by omega, h3⟩
  · by_cases c : i < n
    · exact h.no r e i p c hp hn
    · have : i = n := by omega
      subst this
      cases Option.some.inj (hq.symm.trans hp)
      exact absurd z hn
theorem Kept.there {ps : List Pass} {t : Int} {n : Nat} {kvs : List (Key × V)} (h : Kept ps t n kvs) {q : Pass} (hq : ps[n]? = some q) {v : V} (e : valV kvs (Sum.inl (q.2.1 % t)) = some v) : Kept ps t (n + 1) kvs := by
  refine ⟨fun r v e => ?_, fun r e' i p hi hp hn => ?_⟩
  · obtain ⟨j, p, h1, h2, h3⟩ := h.is r v e
    exact ⟨j, p, h1, by omega, h3⟩
  · by_cases c : i < n
    · exact h.no r e' i p c hp hn
    · have : i = n := by omega
      subst this
      cases Option.some.inj (hq.symm.trans hp)
      intro z
      rw [z, e'] at e
      cases e
theorem Kept.new {ps : List Pass} {t : Int} {n : Nat} {kvs : List (Key × V)} (h : Kept ps t n kvs) {q : Pass} (hq : ps[n]? = some q) (hn : q.1 ≠ 0) (e : valV kvs (Sum.inl (q.2.1 % t)) = none) : Kept ps t (n + 1) (putK kvs (Sum.inl (q.2.1 % t)) (.int (n : Int))) := by
  refine ⟨fun r v e2 => ?_, fun r e2 i p hi hp hne => ?_⟩
  · rw [valV_put] at e2
    by_cases c : (Sum.inl r : Key) = Sum.inl (q.2.1 % t)
    · have c' : r = q.2.1 % t := Sum.inl.inj c
      subst c'
      rw [if_pos rfl] at e2
      cases Option.some.inj e2
      exact ⟨n, q, rfl, Nat.lt_succ_self n, hq, hn, rfl, fun i p hi hp hne => h.no _ e i p hi hp hne⟩
    · rw [if_neg c] at e2
      obtain ⟨j, p, h1, h2, h3⟩ := h.is r v e2
      exact ⟨j, p, h1, by omega, h3⟩
  · rw [valV_put] at e2
    by_cases c : (Sum.inl r : Key) = Sum.inl (q.2.1 % t)
    · rw [if_pos c] at e2
      cases e2
    · rw [if_neg c] at e2
      by_cases cc : i < n
      · exact h.no r e2 i p cc hp hne
      · have : i = n := by omega
        subst this
        cases Option.some.inj (hq.symm.trans hp)
        exact fun z => c (by rw [z])
theorem NoHit.more {ps : List Pass} {t : Int} {n : Nat} (h : NoHit ps t n) (g : ∀ j, j < n → ¬ Hit ps t j n) : NoHit ps t (n + 1) := fun j k jk kn => by
  by_cases c : k < n
  · exact h j k jk c
  · have : k = n := by omega
    subst this
    exact g j jk
theorem fb_enumL {K : PySem.W.Frag} {H : Hp} {σ : L2.St} {D : Ends} {a : Addr} (xs : List V) {g : TG} {tb : TS} (Pv : Nat → L2.St → Hp → Prop) (h0 : Pv 0 σ H) (hl : ∀ i σ H, i ≤ xs.length → Pv i σ H → SqL K H a xs)
    (hs : ∀ i v T σ H, xs[i]? = some v → Pv i σ H → H T = none → g (.ref T) σ (upd H T (.tup [.int (i : Nat), v])) fun σ2 H2 => tb { D with nx := Pv (i + 1), ct := Pv (i + 1), bk := D.nx } σ2 H2) (hd : ∀ σ H, Pv xs.length σ H → D.nx σ H) : FB (Ite K a) g tb D σ H :=
  for_it (walk_enum (xs := xs)) Pv h0 hl (fun i x σ H H' _ p y => by
    obtain ⟨T, u, v, rfl, hT, rfl, e1, e2⟩ := y
    cases Option.some.inj e1
    exact hs i v T σ H e2 p hT) hd
theorem w_ninT {K : PySem.W.Frag} {H : Hp} {Q : VK} {p : Addr} {x : Int} {ns : List Int} (h : SqT K H p (ns.map V.int)) (q : Q (.bl (!decide (x ∈ ns))) H) : rIn K true (.int x) (.ref p) H Q := by
  refine ⟨p, ns.map V.int, rfl, .inr h, rfl, ?_, ?_⟩
  · rw [List.all_map]
    exact List.all_eq_true.mpr fun _ _ => rfl
  · rw [if_pos rfl]
    rw [show inV (.int x) (ns.map V.int) = decide (x ∈ ns) from by
      unfold inV
      rw [List.any_map]
      by_cases e : x ∈ ns
      · rw [decide_eq_true e, List.any_eq_true]
        exact ⟨x, e, by show (x == x) = true; exact beq_self_eq_true x⟩
      · rw [decide_eq_false e, List.any_eq_false]
        intro y hy
        show ¬ (y == x) = true
        intro z
        exact e (eq_of_beq z ▸ hy)]
    exact q
section
variable {K : PySem.W.Frag} {H : Hp} {σ : L2.St} {D : Ends} {Q : VK} {R : It → Hp → Prop}
def IZL (K : PySem.W.Frag) (vs : List V) (H : Hp) (R : It → Hp → Prop) : Prop := iZip K (fun _ H Q => Q vs H) [] H R
theorem w_izip {ta : TA} (h : ta σ H fun vs H1 => IZL K vs H1 R) : iZip K ta σ H R := h
theorem w_IZL {a b : Addr} {xs ys : List V} (h1 : SqL K H a xs) (h2 : SqL K H b ys) (q : R (Itz K a b) H) : IZL K [.ref a, .ref b] H R := ⟨a, b, xs, ys, rfl, h1, h2, q⟩
theorem fb_zipL {a b : Addr} (xs ys : List V) (hl : xs.length = ys.length) {g : TG} {tb : TS} (Pv : Nat → L2.St → Hp → Prop) (h0 : Pv 0 σ H) (hq : ∀ i σ H, i ≤ xs.length → Pv i σ H → SqL K H a xs ∧ SqL K H b ys)
    (hs : ∀ i x y T σ H, xs[i]? = some x → ys[i]? = some y → Pv i σ H → H T = none → g (.ref T) σ (upd H T (.tup [x, y])) fun σ2 H2 => tb { D with nx := Pv (i + 1), ct := Pv (i + 1), bk := D.nx } σ2 H2) (hd : ∀ σ H, Pv xs.length σ H → D.nx σ H) : FB (Itz K a b) g tb D σ H :=
  for_it (walk_zip (xs := xs) (ys := ys) (n := xs.length) (by omega)) Pv h0 hq (fun i x σ H H' _ p y => by
    obtain ⟨T, u, v, rfl, hT, rfl, e1, e2⟩ := y
    exact hs i u v T σ H e1 e2 p hT) hd
end
/-- the passes of the first n shows -/
def passN (cs : List Int) (ss : List (Int × Int)) : Nat → List Pass
  | 0 => []
  | n + 1 => passN cs ss n ++ (match cs[n]?, ss[n]? with | some c, some s => [(c, (if c = 1 then (cs.take n).sum + 1 else (cs.take n).sum), s.2)] | _, _ => [])
theorem pass_upd {K : PySem.W.Frag} {H : Hp} {l : Addr} {ws : List V} {o : HO} (hl : H l = some (.lst ws)) {v : V} {s : Pass} (h : Dp K H v (passD s)) : Dp K (upd H l o) v (passD s) := by
  obtain ⟨g, rfl, hg⟩ := pass_inv h
  exact .tup (sqT_upd hg hl) (.cons (.int _) (.cons (.int _) (.cons (.int _) .nil)))
theorem passes_upd {K : PySem.W.Frag} {H : Hp} {l : Addr} {ws : List V} {o : HO} (hl : H l = some (.lst ws)) : ∀ {vs : List V} {ss : List Pass}, DpAll K H vs (ss.map passD) → DpAll K (upd H l o) vs (ss.map passD)
  | _, [], .nil => .nil
  | _, s :: ss, .cons h t => .cons (pass_upd hl h) (passes_upd hl t)
end Ct

/-! defs that stand on no guard of a showing (so that str of a list may be asked), exceptions that are kept behind the except suite -/
namespace Ct
open PySem PySem.Spec PyProof.Rows L2
section
variable {P : Program} {w : World} {K : PySem.W.Frag} {mg : Str → Option Value} {base : Heap} {CX : CXT}
/-- as a def's promise, asked only where no guard is below -/
structure FnG (P : Program) (w : World) (K : PySem.W.Frag) (mg : Str → Option Value) (base : Heap) (CX : CXT) (k : Nat) (f : Addr) (fd : FuncData) (ps : List Str) (sp : Sp) : Prop where
  long : ∀ vs H Q E, sp vs H Q E → vs.length = ps.length
  goes : ∀ (A : Around), A.guards = some [] → Room k A → ∀ (below : List Env) (z : Shared) (H : Hp) (given : Args) (ws : List Value) (vs : List V) (Q : VK) (E : XK),
    Env0 P w K mg base A below z H → BindsTo z fd given (ps.zip ws) → Vals vs ws → sp vs H Q E → codeAny (model P w) A (.call (.ref f) given) (CR CX below P w H z Q E) z
theorem FnG.more {j k : Nat} {f : Addr} {fd : FuncData} {ps : List Str} {sp : Sp} (F : FnG P w K mg base CX j f fd ps sp) (h : j ≤ k) : FnG P w K mg base CX k f fd ps sp :=
  ⟨F.long, fun A g r => F.goes A g (r.mono h)⟩
theorem fnG_of {x qual : Str} {st : Stmt} {f : Addr} {fd : FuncData} {N ps : List Str} {k : Nat} {sp : Sp} (F : Fun K x qual st f fd) (S : FnScope N ps (defScope st))
    (len : ∀ vs H Q E, sp vs H Q E → (vs.length = ps.length))
    (inside : ∀ (cdv : Value) (A : Around), A.guards = some [] → ∀ (below : List Env) (z : Shared) (H : Hp) (vs : List V) (Q : VK) (E : XK), Room k (A.deeper (envOfC qual (defScope st) z.heap.objs.size f cdv)) → sp vs H Q E →
      ∃ t, PSs (cxOf CX P w K mg base N qual (defScope st) f cdv A below z H E) (defBody st) t ∧ t { nx := fun _ H' => Q .non H', rt := Q } (start N vs) H) :
    FnG P w K mg base CX (k + 1) f fd ps sp := by
  obtain ⟨oc, od, kV, doc, pm, an, cdv, ct, osl, rfl, there, coded⟩ := F.ex
  constructor
  · exact len
  intro A g room below z H given ws vs Q E env bd rel wish
  have kz : K.In z.heap := env.mod.kin.keeps fun b o q => (env.bs b o q).1
  have nl : z.heap.NoLimit := env.mod.nolimit.keeps fun b o q => (env.bs b o q).1
  refine codeAny_call_function room.depth (kz _ _ there) rfl S.co S.gen rfl (PySem.W.codeRec_of kz coded) (bd _ _ _ _ ?_)
  refine wpAny_newFunctionEnv_cells S.kind ?_ ?_
  · rintro ⟨n, v⟩ hn
    cases S.par n (List.of_mem_zip hn).1 with
    | inl q => exact .inl q
    | inr q => exact .inr ⟨q, PySem.W.cellsFrom_some _ _ _ (.inl q)⟩
  · intro env1 henv z1 laid
    subst henv
    refine ⟨nl.keeps laid.toInCall.keep, codeAny_func ?_⟩
    obtain ⟨t, ht, tq⟩ := inside cdv A g below z H vs Q E (room.deeper _) wish
    have J := inv_start (CX := CX) (E := E) S room.hd env (len _ _ _ _ wish) rel laid
    refine wpAny_mono (ht.run [] z1 (start N vs) H _ J tq) ?_ (fun _ _ q => q)
    intro flow z2 out
    match flow, out with
    | .ret u, ⟨v, σ2, H2, J2, r2, q2⟩ => exact ⟨v, H2, J2.os, J2.bare, J2.base, J2.hok, r2, q2⟩
    | .next, ⟨σ2, H2, J2, q2⟩ => exact ⟨.non, H2, J2.os, J2.bare, J2.base, J2.hok, rfl, q2⟩
    | .brk, ⟨_, _, _, q2⟩ => exact q2.elim
    | .cont, ⟨_, _, _, q2⟩ => exact q2.elim
/-- .. for a def that lets nothing out -/
theorem fnG_of0 {x qual : Str} {st : Stmt} {f : Addr} {fd : FuncData} {N ps : List Str} {k : Nat} {sp : Sp} (F : Fun K x qual st f fd) (S : FnScope N ps (defScope st))
    (len : ∀ vs H Q E, sp vs H Q E → (vs.length = ps.length))
    (inside : ∀ (cdv : Value) (A : Around), A.guards = some [] → ∀ (below : List Env) (z : Shared) (H : Hp) (vs : List V) (Q : VK) (E : XK), Room k (A.deeper (envOfC qual (defScope st) z.heap.objs.size f cdv)) → sp vs H Q E →
      ∃ t, PSs (cxOf CX0 P w K mg base N qual (defScope st) f cdv A below z H E).nox (defBody st) t ∧ t { nx := fun _ H' => Q .non H', rt := Q } (start N vs) H) :
    FnG P w K mg base CX0 (k + 1) f fd ps sp :=
  fnG_of F S len fun cdv A g below z H vs Q E r q => by
    obtain ⟨t, h, tq⟩ := inside cdv A g below z H vs Q E r q
    exact ⟨t, h.nox, tq⟩
end
section
variable {X : Cx} {CX : CXT} {k : Nat} {f : Addr} {fd : FuncData} {ps : List Str} {sp : Sp} {E : XK} {x : Str} {p pos : Pos} {e : Expr} {es : List Expr} {t : TA}
/-- f(e, ..) of such a def -/
theorem pe_callG (F : FnG X.prog X.w X.K X.mg X.base CX k f fd ps sp) (gd : X.A.guards = some []) (room : Room k X.A) (gl : Gl X x) (here : X.mg x = some (.ref f)) (kp : PySem.W.keepIn X.K (.ref f) = true) (bd : Binds X.K fd ps [])
    (out : Passes CX X E) (ha : PA X (e :: es) t) (hdb : (x == ("__debug__" : Str)) = false := by decide)
    (h1 : starEach (e :: es) X.env = (false, eval e X.env) :: starEach es X.env := by rfl) (h2 : (backTo pos (starEach es X.env)).any (·.1) = false := by rfl) :
    PE X (.Call (.Name x p) (e :: es) [] pos) (tCall sp [] E t) := by
  constructor
  intro pins z σ H Q J h
  refine wpAny_Call_Name_kw (ld_glob J gl here ?_ hdb)
  refine PySem.W.callWith_K (h₀ := X.base) J.ok.mod.kin kp (thn (ha.run pos pins z σ H _ J h) ?_) h1 h2
  rintro ws z1 ⟨vs, H1, J1, rel, q⟩
  refine ⟨J1.kIn, wpAny_call (codeAny_mono (F.goes X.A gd room X.stack z1 H1 ⟨ws, []⟩ ws vs Q E J1.env0 ?_ rel (by rw [List.append_nil] at q; exact q)) ?_)⟩
  · have q' : sp vs H1 Q E := by rw [List.append_nil] at q; exact q
    have b := bd z1 ws J1.kIn (by rw [List.append_nil, ← rel.length]; exact F.long _ _ _ _ q')
    rw [List.append_nil] at b
    exact b
  · intro r z2 hq
    match r, hq with
    | .error er, hq => exact out pins σ H1 z1 er z2 J1 hq
    | .ok (.ret u), hq => exact J1.after hq
    | .ok .next, hq => exact (show False from hq).elim
    | .ok .brk, hq => exact (show False from hq).elim
    | .ok .cont, hq => exact (show False from hq).elim
end
end Ct
namespace Ct
open PySem PySem.Spec PyProof.Rows L2
/-- what is tracked at the law's call: the script, unless it is one of the module's own objects -/
def ScrH (K : PySem.W.Frag) (a : Addr) (o : Obj) (ns : List Int) : Hp := fun b => if b = a ∧ K.lookup a = none then some (.frz o (.lst (ns.map V.int))) else none
theorem scrH_cases (K : PySem.W.Frag) (a : Addr) (o : Obj) (ns : List Int) (b : Addr) : ScrH K a o ns b = none ∨ (b = a ∧ K.lookup a = none ∧ ScrH K a o ns b = some (.frz o (.lst (ns.map V.int)))) := by
  unfold ScrH
  by_cases c : b = a ∧ K.lookup a = none
  · exact .inr ⟨c.1, c.2, if_pos c⟩
  · exact .inl (if_neg c)
/-- the law's def, called on the script -/
theorem lawG_call {P : Program} {w : World} {K : PySem.W.Frag} {mg mb : Str → Option Value} {k : Nat} {fa a : Addr} {fd : FuncData} {x : Str} {sp : Sp} {z : Shared} {vs : List Value} {ns : List Int}
    (kz : K.In z.heap) (gl : z.heap.Ns mainGlobals mg) (bl : z.heap.Ns builtinsNs mb) (blt : ∀ y : Str, y ≠ "__name__" → mb y = bootBuiltins y) (lim : z.heap.NoLimit) (gens : z.gens = #[])
    (ha : z.heap.get? a = some { cls := .type "list", data := .seq vs.toArray }) (areInts : IntsAre vs ns) (len : ns.length ≤ sizeLine) (room : Room k callerA)
    (F : ∀ base : Heap, K.In base → base.Ns mainGlobals mg → FnG P w K mg base CX0 k fa fd [x] sp) (bind : ∀ (s : Shared) (u : Value), BindsTo s fd ⟨[u], []⟩ [(x, u)])
    (wish : ∀ H : Hp, Only H → SqL K H a (ns.map V.int) → sp [.ref a] H (fun v _ => v = .bl true) fun _ _ _ => False) :
    codeAny (model P w) callerA (.call (.ref fa) ⟨[.ref a], []⟩) (fun r s' => r = .ok (.ret (.bool true)) ∧ OldK z.heap s'.heap ∧ s'.os = z.os ∧ AllBare s'.gens) z := by
  obtain ⟨o, ho⟩ : ∃ o : Obj, o = { cls := .type "list", data := .seq vs.toArray } := ⟨_, rfl⟩
  rw [← ho] at ha
  have two := scrH_cases K a o ns
  generalize hH : ScrH K a o ns = H at two
  have only : Only H := fun b => (two b).elim .inl fun q => .inr ⟨_, _, q.2.2⟩
  have rel := vals_ints areInts
  have hseq : SqL K H a (ns.map V.int) := by
    rcases two a with q | ⟨_, _, q⟩
    · cases c : K.lookup a with
      | none =>
        rw [← hH] at q
        unfold ScrH at q
        rw [if_pos ⟨rfl, c⟩] at q
        cases q
      | some o' =>
        have e := kz a o' c
        rw [ha] at e
        cases e
        subst ho
        exact .inr ⟨_, vs.toArray, _, c, rfl, rfl, rfl, by rw [List.size_toArray, areInts.length]; exact len, by simpa using rel⟩
    · exact .inl (.inr ⟨o, q⟩)
  have held : HOk P w H z.heap := fun b u e => by
    rcases two b with q | ⟨rfl, _, q⟩
    · rw [q] at e
      cases e
    · rw [q] at e
      cases e
      refine ⟨ha, by rw [List.length_map]; exact len, vs, 0, rel, ?_⟩
      rw [ha, ho]
  have still : ∀ {b : Addr} {u : Obj}, z.heap.get? b = some u → (b = a → K.lookup a ≠ none ∨ u ≠ o) → (hidT z.heap H).get? b = some u := fun {b u} e no => by
    refine hidT_get e ?_
    rcases two b with q | ⟨rfl, q1, _⟩
    · exact q
    · rcases no rfl with q | q
      · exact absurd q1 q
      · rw [ha] at e
        exact absurd (Option.some.inj e).symm q
  have names : ∀ {b : Addr} {m : Str → Option Value}, z.heap.Ns b m → (hidT z.heap H).Ns b m := fun {b m} ⟨u, es, ep, e, d, r⟩ =>
    ⟨u, es, ep, still e (fun _ => .inr fun q => by rw [q, ho] at d; cases d), d, r⟩
  have kb : K.In (hidT z.heap H) := fun b u e => still (kz b u e) fun q => .inl fun n => by rw [← q, e] at n; cases n
  obtain ⟨mc, l1, l2⟩ := lim
  have env : Env0 P w K mg (hidT z.heap H) callerA [] z H :=
    { frames := rfl, mod := ⟨kb, names gl, ⟨mb, names bl, blt⟩, mc, names l1, l2⟩, bs := fun b u e => of_hidT e, bsz := Nat.le_of_eq (hidT_size _ _), funs := trivial, frf := fun b q => (List.not_mem_nil q).elim, hok := held, bare := .of_eq gens }
  refine codeAny_mono ((F _ kb (names gl)).goes callerA rfl room [] z H ⟨[.ref a], []⟩ [.ref a] [.ref a] _ _ env (bind z (.ref a)) (.cons rfl .nil) (wish H only hseq)) ?_
  intro r z2 hq
  match r, hq with
  | .error er, hq => exact (show False from hq).elim
  | .ok .next, hq => exact (show False from hq).elim
  | .ok .brk, hq => exact (show False from hq).elim
  | .ok .cont, hq => exact (show False from hq).elim
  | .ok (.ret u), ⟨v, H2, os, bare, un, held2, rv, q⟩ =>
    have q' : v = .bl true := q
    subst q'
    obtain rfl : u = Value.bool true := rv
    refine ⟨rfl, OldK.of_keep fun b ob e => ?_, os, bare⟩
    rcases two b with n | ⟨rfl, _, n⟩
    · exact un.keep b ob e n (fun m => (List.not_mem_nil m).elim) (fun m => (List.not_mem_nil m).elim)
    · have k2 := (held2 b _ (un.frzs b _ _ n)).1
      rw [ha] at e
      cases e
      exact k2
/-- the end of a law whose def asks str of lists -/
theorem walk_ofG {l : PySem.W.OpenLaw} {n k : Nat} {q : Program} {loose : List Str} {XP : (Str → Option Value) → Heap → Prop} {YP : World → Heap → Prop} {d : DefRec} {K : Params → PySem.W.Frag} {sp : World → Sp} {x : Str}
    (most : l.most = some n) (most2 : n ≤ sizeLine) (nodef : d.params.defaults = []) (room : Room k callerA) (hY : ∀ (w : World) (h : Heap), YP w h → (K w.params).In h)
    (F : ∀ (w : World) (mg : Str → Option Value) (fa : Addr) (h : Heap), (K w.params).In h → h.Ns mainGlobals mg → mg d.name = some (.ref fa) →
      ∃ fd : FuncData, (∀ (s : Shared) (u : Value), BindsTo s fd ⟨[u], []⟩ [(x, u)]) ∧ ∀ base : Heap, (K w.params).In base → base.Ns mainGlobals mg → FnG l.prog w (K w.params) mg base CX0 k fa fd [x] (sp w))
    (wish : ∀ (w : World) (H : Hp) (a : Addr) (ns : List Int), ns.length ≤ n → Only H → SqL (K w.params) H a (ns.map V.int) → sp w [.ref a] H (fun v _ => v = .bl true) fun _ _ _ => False) :
    PySem.W.WalkO q loose XP YP l.row.toRowW d [] (fun f vs => PySem.call f vs) := by
  apply Att.attach_call most nodef
  intro w _ z mg mb fa _ _ _ _ a vs ns ground y _ _ _ named hobj areInts len gens
  obtain ⟨fd, bind, hF⟩ := F w mg fa _ (hY w _ y) ground.T.g named
  exact lawG_call (hY w _ y) ground.T.g ground.T.b ground.T.builtins ground.T.nolimit gens hobj areInts (Nat.le_trans len most2) room hF bind fun H hO hS => wish w H a ns len hO hS
end Ct

/-! str of data with many small numbers in it -/
namespace Ct
open PySem PySem.Spec PyProof.Rows L2
mutual
def okI : PyData → Bool
  | .none => true
  | .bool _ => true
  | .int i => decide (i.natAbs < 2 ^ 200)
  | .str x => PyData.canLay0 (.str x)
  | .list xs => okIs xs
  | .tuple xs => okIs xs
  | .dict _ => false
def okIs : List PyData → Bool
  | [] => true
  | x :: xs => okI x && okIs xs
end
theorem short_int20 {i : Int} (h : i.natAbs < 2 ^ 200) : (PyData.shown (.int i)).length ≤ 100 := by
  have e := int_text_length_le10 (k := 61) (by decide) (Nat.lt_of_lt_of_le h (by decide +kernel))
  show (Str.ofString (toString i)).length ≤ 100
  rw [PySem.ofString_length]
  omega
mutual
theorem okI_facts : ∀ d : PyData, okI d = true → d.showable = true ∧ d.hasDict = false ∧ d.leavesShort 100 = true
  | .none, _ => ⟨rfl, rfl, rfl⟩
  | .bool _, _ => ⟨rfl, rfl, rfl⟩
  | .int i, h => by
    have h' : i.natAbs < 2 ^ 200 := of_decide_eq_true h
    refine ⟨?_, rfl, decide_eq_true (short_int20 h')⟩
    show decide (i.natAbs.log2 < 1920) = true
    by_cases c : i.natAbs = 0
    · rw [c]; decide
    · exact decide_eq_true (Nat.lt_trans ((Nat.log2_lt c).mpr h') (by decide))
  | .str x, h => ⟨rfl, rfl, PyData.leavesShort_of_canLay0 100 (.str x) h rfl⟩
  | .list xs, h => okIs_facts xs h
  | .tuple xs, h => okIs_facts xs h
  | .dict _, h => nomatch h
theorem okIs_facts : ∀ xs : List PyData, okIs xs = true → PyData.showableAll xs = true ∧ PyData.hasDictAll xs = false ∧ PyData.leavesShortAll 100 xs = true
  | [], _ => ⟨rfl, rfl, rfl⟩
  | x :: xs, h => by
    have h' : okI x = true ∧ okIs xs = true := by rw [okIs, Bool.and_eq_true] at h; exact h
    obtain ⟨a1, a2, a3⟩ := okI_facts x h'.1
    obtain ⟨b1, b2, b3⟩ := okIs_facts xs h'.2
    refine ⟨?_, ?_, ?_⟩
    · rw [PyData.showableAll, a1, b1]; rfl
    · rw [PyData.hasDictAll, a2, b2]; rfl
    · rw [PyData.leavesShortAll, a3, b3]; rfl
end
structure Shw (d : PyData) : Prop where
  ok : okI d = true
  lay : d.canLay0 = true ∧ d.depth ≤ 40
  bk : d.bulk ≤ 5000
def rStrB (K : PySem.W.Frag) : List V → Hp → VK → Prop := fun xs H Q => ∃ (a : Addr) (d : PyData), xs = [.ref a] ∧ Dp K H (.ref a) d ∧ Shw d ∧ Q (.str d.shown) H
theorem call_strB {X : Cx} (gd : X.A.guards = some []) (hu : X.A.units + 64 < cLine) : CallR X (.type "str") (rStrB X.K) := by
  rintro pins s σ H xs us Q J r ⟨a, d, rfl, hd, sh, q⟩
  obtain ⟨u, rfl, r1⟩ := vals1 r
  cases (show u = Value.ref a from r1)
  obtain ⟨as, rd⟩ := Dp.reads J d (.ref a) (.ref a) hd rfl
  obtain ⟨f1, f2, f3⟩ := okI_facts d sh.ok
  refine str_of_reads rd f1 (fun z => by rw [f2] at z; cases z) gd (by have := sh.lay.2; omega) (fun _ _ e => e) ?_ ?_
  · intro h' t tk keeps
    exact ⟨.str d.shown, H, J.kept (t' := tk) keeps, ⟨t, rfl⟩, q⟩
  · have b := PyData.shown_le_bulk 100 (by decide) d f3
    have := sh.bk
    have m : (100 + 2) * d.bulk ≤ (100 + 2) * 5000 := Nat.mul_le_mul_left _ this
    rw [sizeLine_eq]
    omega
theorem okIs_ints {ms : List Int} (h : ∀ m ∈ ms, m.natAbs < 2 ^ 20) : okIs (ms.map PyData.int) = true := by
  induction ms with
  | nil => rfl
  | cons m r ih =>
    rw [List.map_cons, okIs, ih fun x hx => h x (List.mem_cons_of_mem _ hx), okI, decide_eq_true (Nat.lt_trans (h m List.mem_cons_self) (by decide))]
    rfl
theorem bulk_ints (ms : List Int) : PyData.bulkAll (ms.map PyData.int) = ms.length := by
  induction ms with
  | nil => rfl
  | cons m r ih =>
    rw [List.map_cons, PyData.bulkAll, ih, List.length_cons, PyData.bulk]
    omega
end Ct

/-! the smallest wheel: passes of shows, wheels that do them -/
namespace Ct
open PySem PySem.Spec PyProof.Rows L2
/-- data without lists in it -/
inductive NL : PyData → Prop
  | non : NL .none
  | bl (b : Bool) : NL (.bool b)
  | int (i : Int) : NL (.int i)
  | str (x : Str) : NL (.str x)
  | tup {ds : List PyData} : (∀ d ∈ ds, NL d) → NL (.tuple ds)
theorem NL.inv {ds : List PyData} : NL (.tuple ds) → ∀ d ∈ ds, NL d
  | .tup h => h
theorem NL.no {ds : List PyData} (h : NL (.list ds)) : False := nomatch h
mutual
theorem dp_wr {K : PySem.W.Frag} {H : Hp} {l : Addr} {ws : List V} {o : HO} (hl : H l = some (.lst ws)) : ∀ {v : V} {d : PyData}, Dp K H v d → (NL d → Dp K (upd H l o) v d)
  | _, _, .non => fun _ => .non
  | _, _, .bl b => fun _ => .bl b
  | _, _, .int i => fun _ => .int i
  | _, _, .str x => fun _ => .str x
  | _, _, .lst _ _ => fun n => n.no.elim
  | _, _, .tup h t => fun n => .tup (sqT_upd h hl) (dpAll_wr hl t n.inv)
theorem dpAll_wr {K : PySem.W.Frag} {H : Hp} {l : Addr} {ws : List V} {o : HO} (hl : H l = some (.lst ws)) : ∀ {vs : List V} {ds : List PyData}, DpAll K H vs ds → ((∀ d ∈ ds, NL d) → DpAll K (upd H l o) vs ds)
  | _, _, .nil => fun _ => .nil
  | _, _, .cons h t => fun n => .cons (dp_wr hl h (n _ List.mem_cons_self)) (dpAll_wr hl t fun d hd => n d (List.mem_cons_of_mem _ hd))
end
def toothN (cs : List Int) (n : Nat) : Int := if cs[n]? = some 1 then (cs.take n).sum + 1 else (cs.take n).sum
theorem passN_all (cs : List Int) (ss : List (Int × Int)) : ∀ n, n ≤ cs.length → n ≤ ss.length → (passN cs ss n).length = n ∧ ∀ i c s, i < n → cs[i]? = some c → ss[i]? = some s → (passN cs ss n)[i]? = some (c, toothN cs i, s.2)
  | 0, _, _ => ⟨rfl, fun i _ _ h => absurd h (Nat.not_lt_zero i)⟩
  | n + 1, h1, h2 => by
    obtain ⟨l, g⟩ := passN_all cs ss n (by omega) (by omega)
    obtain ⟨c, hc⟩ : ∃ c, cs[n]? = some c := ⟨_, List.getElem?_eq_getElem (by omega)⟩
    obtain ⟨s, hs⟩ : ∃ s, ss[n]? = some s := ⟨_, List.getElem?_eq_getElem (by omega)⟩
    have e : passN cs ss (n + 1) = passN cs ss n ++ [(c, toothN cs n, s.2)] := by
      rw [passN, hc, hs]
      unfold toothN
      rw [hc]
      simp only [Option.some.injEq]
    rw [e]
    refine ⟨by rw [List.length_append, l]; rfl, fun i c' s' hi hc' hs' => ?_⟩
    by_cases z : i < n
    · rw [List.getElem?_append_left (by omega)]
      exact g i c' s' z hc' hs'
    · have : i = n := by omega
      subst this
      rw [List.getElem?_append_right (by omega), l, Nat.sub_self]
      cases Option.some.inj (hc.symm.trans hc')
      cases Option.some.inj (hs.symm.trans hs')
      rfl
theorem tooth_step {cs : List Int} (h : ∀ c ∈ cs, c = 1 ∨ c = 0 ∨ c = -1) {n : Nat} (hn : n + 1 < cs.length) : toothN cs (n + 1) - toothN cs n ≤ 1 ∧ toothN cs n - toothN cs (n + 1) ≤ 1 := by
  obtain ⟨c, hc⟩ : ∃ c, cs[n]? = some c := ⟨_, List.getElem?_eq_getElem (by omega)⟩
  obtain ⟨d, hd⟩ : ∃ d, cs[n + 1]? = some d := ⟨_, List.getElem?_eq_getElem (by omega)⟩
  have e : (cs.take (n + 1)).sum = (cs.take n).sum + c := by
    rw [List.take_add_one, hc, Option.toList_some, List.sum_append]
    simp
  have c3 := h c (List.mem_of_getElem? hc)
  have d3 := h d (List.mem_of_getElem? hd)
  unfold toothN
  rw [hc, hd, e]
  simp only [Option.some.injEq]
  rcases c3 with rfl | rfl | rfl <;> rcases d3 with rfl | rfl | rfl <;> simp <;> omega
theorem tooth_near {cs : List Int} (h : ∀ c ∈ cs, c = 1 ∨ c = 0 ∨ c = -1) (j : Nat) : ∀ d : Nat, j + d < cs.length → toothN cs (j + d) - toothN cs j ≤ d ∧ toothN cs j - toothN cs (j + d) ≤ d
  | 0, _ => ⟨by simp, by simp⟩
  | d + 1, hd => by
    have a := tooth_near h j d (by omega)
    have b := tooth_step h (n := j + d) (by omega)
    rw [show j + (d + 1) = j + d + 1 by omega]
    omega
def Walky (ps : List Pass) : Prop := ∀ (j k : Nat) (p q : Pass), j < k → ps[j]? = some p → ps[k]? = some q → p.2.1 - q.2.1 < ps.length ∧ q.2.1 - p.2.1 < ps.length
theorem walky_pass {cs : List Int} {ss : List (Int × Int)} (h : ∀ c ∈ cs, c = 1 ∨ c = 0 ∨ c = -1) (hl : cs.length = ss.length) : Walky (passN cs ss ss.length) := by
  obtain ⟨l, g⟩ := passN_all cs ss ss.length (by omega) (Nat.le_refl _)
  intro j k p q jk hp hq
  have kl : k < ss.length := by rw [← l]; exact (List.getElem?_eq_some_iff.mp hq).1
  have at_ : ∀ i, i < ss.length → ∃ c s, (passN cs ss ss.length)[i]? = some (c, toothN cs i, s) := fun i hi => by
    obtain ⟨c, hc⟩ : ∃ c, cs[i]? = some c := ⟨_, List.getElem?_eq_getElem (by omega)⟩
    obtain ⟨s, hs⟩ : ∃ s, ss[i]? = some s := ⟨_, List.getElem?_eq_getElem (by omega)⟩
    exact ⟨c, s.2, g i c s hi hc hs⟩
  obtain ⟨c1, s1, e1⟩ := at_ j (by omega)
  obtain ⟨c2, s2, e2⟩ := at_ k kl
  cases Option.some.inj (e1.symm.trans hp)
  cases Option.some.inj (e2.symm.trans hq)
  have n := tooth_near h j (k - j) (by omega)
  rw [show j + (k - j) = k by omega] at n
  rw [l]
  show toothN cs j - toothN cs k < _ ∧ toothN cs k - toothN cs j < _
  omega
theorem emod_near {p q n : Int} (h : p % n = q % n) (h1 : p - q < n) (h2 : q - p < n) : p = q := by
  have e1 := Int.mul_ediv_add_emod p n
  have e2 := Int.mul_ediv_add_emod q n
  have d : n * (p / n - q / n) = p - q := by rw [Int.mul_sub]; omega
  generalize p / n - q / n = k at d
  have k0 : k = 0 := by
    rcases Int.lt_trichotomy k 0 with z | z | z
    · have := Int.mul_le_mul_of_nonneg_left (a := k) (b := -1) (c := n) (by omega) (by omega)
      omega
    · exact z
    · have := Int.mul_le_mul_of_nonneg_left (a := 1) (b := k) (c := n) (by omega) (by omega)
      omega
  subst k0
  omega
theorem hit_all {ps : List Pass} (wk : Walky ps) {j k : Nat} (jk : j < k) (h : Hit ps ps.length j k) (t : Int) : Hit ps t j k := by
  obtain ⟨p, q, e1, e2, e3, e4⟩ := h
  obtain ⟨a, b⟩ := wk j k p q jk e1 e2
  exact ⟨p, q, e1, e2, by rw [emod_near e3 a b], e4⟩
def hitB (ps : List Pass) (t : Int) (j k : Nat) : Bool := match ps[j]?, ps[k]? with
  | some p, some q => decide (p.2.1 % t = q.2.1 % t) && unlk p q
  | _, _ => false
theorem hitB_iff {ps : List Pass} {t : Int} {j k : Nat} : hitB ps t j k = true ↔ Hit ps t j k := by
  unfold hitB Hit
  cases hj : ps[j]? with
  | none => exact ⟨(fun z => nomatch z), fun ⟨_, _, e, _⟩ => nomatch e⟩
  | some p =>
    cases hk : ps[k]? with
    | none => exact ⟨(fun z => nomatch z), fun ⟨_, _, _, e, _⟩ => nomatch e⟩
    | some q =>
      simp only [Bool.and_eq_true, decide_eq_true_eq]
      exact ⟨fun ⟨a, b⟩ => ⟨p, q, rfl, rfl, a, b⟩, fun ⟨p', q', e1, e2, a, b⟩ => by
        cases e1
        cases e2
        exact ⟨a, b⟩⟩
def freeB (ps : List Pass) (t : Int) : Bool := (List.range ps.length).all fun k => (List.range k).all fun j => !hitB ps t j k
theorem freeB_iff {ps : List Pass} {t : Int} : freeB ps t = true ↔ NoHit ps t ps.length := by
  unfold freeB NoHit
  rw [List.all_eq_true]
  constructor
  · intro h j k jk kn z
    have := List.all_eq_true.mp (h k (List.mem_range.mpr kn)) j (List.mem_range.mpr jk)
    rw [hitB_iff.mpr z] at this
    cases this
  · intro h k hk
    rw [List.all_eq_true]
    intro j hj
    cases e : hitB ps t j k with
    | false => rfl
    | true => exact absurd (hitB_iff.mp e) (h j k (List.mem_range.mp hj) (List.mem_range.mp hk))
def wrongB (p : Pass) : Bool := !(decide (p.2.2 = p.1) || decide (p.2.2 = 0))
theorem wrongB_no {p : Pass} (h : wrongB p = false) : p.2.2 = p.1 ∨ p.2.2 = 0 := by
  by_cases e : p.2.2 = p.1
  · exact .inl e
  · by_cases z : p.2.2 = 0
    · exact .inr z
    · unfold wrongB at h
      rw [decide_eq_false e, decide_eq_false z] at h
      cases h
/-- the pair that is found first -/
def IsCl (ps : List Pass) (t : Int) (j k : Nat) : Prop := j < k ∧ Hit ps t j k ∧ NoHit ps t k ∧ ∀ i, i < j → ¬ Hit ps t i k
theorem IsCl.uniq {ps : List Pass} {t : Int} {j k j' k' : Nat} (a : IsCl ps t j k) (b : IsCl ps t j' k') : j = j' ∧ k = k' := by
  obtain ⟨a1, a2, a3, a4⟩ := a
  obtain ⟨b1, b2, b3, b4⟩ := b
  have e : k = k' := by
    rcases Nat.lt_trichotomy k k' with z | z | z
    · exact absurd a2 (b3 j k a1 z)
    · exact z
    · exact absurd b2 (a3 j' k' b1 z)
  subst e
  refine ⟨?_, rfl⟩
  rcases Nat.lt_trichotomy j j' with z | z | z
  · exact absurd a2 (b4 j z)
  · exact z
  · exact absurd b2 (a4 j' z)
theorem Hit.lt {ps : List Pass} {t : Int} {j k : Nat} (h : Hit ps t j k) : k < ps.length := by
  obtain ⟨_, _, _, e, _⟩ := h
  exact (List.getElem?_eq_some_iff.mp e).1
theorem IsCl.not {ps : List Pass} {t : Int} {j k : Nat} (a : IsCl ps t j k) : freeB ps t = false := by
  cases e : freeB ps t with
  | false => rfl
  | true => exact absurd a.2.1 (freeB_iff.mp e j k a.1 a.2.1.lt)
def IsMarks (ps : List Pass) (t : Int) (ms : List Int) : Prop := ms.Pairwise (· < ·) ∧ ∀ r, r ∈ ms ↔ ∃ p ∈ ps, p.2.2 ≠ 0 ∧ p.2.1 % t = r
theorem rise_eq : ∀ {l m : List Int}, l.Pairwise (· < ·) → m.Pairwise (· < ·) → (∀ r, r ∈ l ↔ r ∈ m) → l = m
  | [], [], _, _, _ => rfl
  | [], y :: m, _, _, h => absurd ((h y).mpr List.mem_cons_self) (by simp)
  | x :: l, [], _, _, h => absurd ((h x).mp List.mem_cons_self) (by simp)
  | x :: l, y :: m, a, b, h => by
    obtain ⟨a1, a2⟩ := List.pairwise_cons.mp a
    obtain ⟨b1, b2⟩ := List.pairwise_cons.mp b
    have xy : x = y := by
      rcases List.mem_cons.mp ((h x).mp List.mem_cons_self) with e | e
      · exact e
      · rcases List.mem_cons.mp ((h y).mpr List.mem_cons_self) with f | f
        · exact f.symm
        · have := a1 y f
          have := b1 x e
          omega
    subst xy
    rw [rise_eq a2 b2 fun r => ?_]
    constructor
    · intro hr
      rcases List.mem_cons.mp ((h r).mp (List.mem_cons_of_mem _ hr)) with e | e
      · have := a1 r hr
        omega
      · exact e
    · intro hr
      rcases List.mem_cons.mp ((h r).mpr (List.mem_cons_of_mem _ hr)) with e | e
      · have := b1 r hr
        omega
      · exact e
theorem IsMarks.uniq {ps : List Pass} {t : Int} {l m : List Int} (a : IsMarks ps t l) (b : IsMarks ps t m) : l = m := rise_eq a.1 b.1 fun r => (a.2 r).trans (b.2 r).symm
theorem IsMarks.rise {ps : List Pass} {t : Int} {l : List Int} (a : IsMarks ps t l) (ht : 1 ≤ t) : Rise t l := ⟨a.1, fun m hm => by
  obtain ⟨p, _, _, e⟩ := (a.2 m).mp hm
  rw [← e]
  exact ⟨Int.emod_nonneg _ (by omega), Int.emod_lt_of_pos _ (by omega)⟩⟩
/-- whether a wheel of t teeth with these marks shows so -/
def doesB (t : Int) (ms : List Int) (ps : List Pass) : Bool := ps.all fun p => decide (p.2.2 = if p.2.1 % t ∈ ms then p.1 else 0)
theorem nohit_sym {ps : List Pass} {t : Int} (nh : NoHit ps t ps.length) {p q : Pass} (hp : p ∈ ps) (hq : q ∈ ps) (e : p.2.1 % t = q.2.1 % t) (cp : p.1 ≠ 0) (cq : q.1 ≠ 0) : p.2.2 = 0 ↔ q.2.2 = 0 := by
  obtain ⟨j, hj⟩ := List.mem_iff_getElem?.mp hp
  obtain ⟨k, hk⟩ := List.mem_iff_getElem?.mp hq
  have kl := (List.getElem?_eq_some_iff.mp hk).1
  have jl := (List.getElem?_eq_some_iff.mp hj).1
  rcases Nat.lt_trichotomy j k with z | z | z
  · have u : unlk p q = false := by
      cases c : unlk p q with
      | false => rfl
      | true => exact absurd ⟨p, q, hj, hk, e, c⟩ (nh j k z kl)
    have := unlk_of cp cq u
    simpa using this
  · subst z
    cases Option.some.inj (hj.symm.trans hk)
    exact Iff.rfl
  · have u : unlk q p = false := by
      cases c : unlk q p with
      | false => rfl
      | true => exact absurd ⟨q, p, hk, hj, e.symm, c⟩ (nh k j z jl)
    have := unlk_of cq cp u
    simpa using this.symm
theorem does_marks {ps : List Pass} {t : Int} {ms : List Int} (nw : ∀ p ∈ ps, wrongB p = false) (nh : NoHit ps t ps.length) (im : IsMarks ps t ms) : doesB t ms ps = true := by
  unfold doesB
  rw [List.all_eq_true]
  intro p hp
  rw [decide_eq_true_eq]
  by_cases h : p.2.1 % t ∈ ms
  · rw [if_pos h]
    obtain ⟨q, hq, q0, e⟩ := (im.2 _).mp h
    by_cases c : p.1 = 0
    · rcases wrongB_no (nw p hp) with z | z
      · exact z
      · rw [z, c]
    · have cq : q.1 ≠ 0 := by
        rcases wrongB_no (nw q hq) with z | z
        · rw [← z]; exact q0
        · exact absurd z q0
      rcases wrongB_no (nw p hp) with z | z
      · exact z
      · exact absurd ((nohit_sym nh hq hp e cq c).mpr z) q0
  · rw [if_neg h]
    by_cases c : p.2.2 = 0
    · exact c
    · exact absurd ((im.2 _).mpr ⟨p, hp, c, rfl⟩) h
theorem does_needs {ps : List Pass} {t : Int} {ms : List Int} (h : doesB t ms ps = true) : (∀ p ∈ ps, wrongB p = false) ∧ NoHit ps t ps.length ∧ ∀ l, IsMarks ps t l → ∀ r ∈ l, r ∈ ms := by
  have d : ∀ p ∈ ps, p.2.2 = if p.2.1 % t ∈ ms then p.1 else 0 := fun p hp => by simpa using List.all_eq_true.mp h p hp
  refine ⟨fun p hp => ?_, fun j k jk kn ⟨p, q, hp, hq, e, u⟩ => ?_, fun l im r hr => ?_⟩
  · have := d p hp
    unfold wrongB
    by_cases c : p.2.1 % t ∈ ms
    · rw [if_pos c] at this
      rw [this]
      simp
    · rw [if_neg c] at this
      rw [this]
      simp
  · obtain ⟨cp, cq, ne⟩ := unlk_came u
    have dp := d p (List.mem_of_getElem? hp)
    have dq := d q (List.mem_of_getElem? hq)
    apply ne
    by_cases c : p.2.1 % t ∈ ms
    · rw [if_pos c] at dp
      rw [if_pos (e ▸ c)] at dq
      rw [dp, dq, decide_eq_false cp, decide_eq_false cq]
    · rw [if_neg c] at dp
      rw [if_neg (e ▸ c)] at dq
      rw [dp, dq]
  · obtain ⟨p, hp, p0, e⟩ := (im.2 r).mp hr
    have := d p hp
    by_cases c : p.2.1 % t ∈ ms
    · rw [← e]; exact c
    · rw [if_neg c] at this
      exact absurd this p0
theorem sub_len : ∀ (l m : List Int), l.Nodup → (∀ x ∈ l, x ∈ m) → l.length ≤ m.length
  | [], _, _, _ => Nat.zero_le _
  | x :: l, m, nd, h => by
    obtain ⟨h1, h2⟩ := List.nodup_cons.mp nd
    have a := sub_len l (m.erase x) h2 fun y hy => (List.mem_erase_of_ne (fun (e : y = x) => h1 (by rw [← e]; exact hy))).mpr (h y (List.mem_cons_of_mem _ hy))
    have b := List.length_erase_of_mem (h x List.mem_cons_self)
    have c : 0 < m.length := List.length_pos_of_mem (h x List.mem_cons_self)
    rw [List.length_cons]
    omega
theorem rise_nodup {l : List Int} (h : l.Pairwise (· < ·)) : l.Nodup := h.imp fun {a b} z => by omega
/-- all rising lists of numbers below n -/
def allM : Nat → List (List Int)
  | 0 => [[]]
  | n + 1 => allM n ++ (allM n).map (· ++ [(n : Int)])
theorem allM_rise : ∀ (n : Nat) (l : List Int), l ∈ allM n → Rise n l
  | 0, l, h => by
    rw [List.mem_singleton.mp h]
    exact ⟨List.Pairwise.nil, fun _ z => nomatch z⟩
  | n + 1, l, h => by
    rcases List.mem_append.mp h with h | h
    · obtain ⟨a, b⟩ := allM_rise n l h
      exact ⟨a, fun m hm => by have := b m hm; omega⟩
    · obtain ⟨r, hr, rfl⟩ := List.mem_map.mp h
      obtain ⟨a, b⟩ := allM_rise n r hr
      refine ⟨List.pairwise_append.mpr ⟨a, List.pairwise_singleton _ _, fun x hx y hy => ?_⟩, fun m hm => ?_⟩
      · rw [List.mem_singleton.mp hy]
        exact (b x hx).2
      · rcases List.mem_append.mp hm with hm | hm
        · have := b m hm
          omega
        · rw [List.mem_singleton.mp hm]
          omega
theorem rise_allM : ∀ (n : Nat) (l : List Int), Rise n l → l ∈ allM n
  | 0, l, h => by
    cases l with
    | nil => exact List.mem_singleton.mpr rfl
    | cons x l =>
      have := h.2 x List.mem_cons_self
      omega
  | n + 1, l, h => by
    refine List.mem_append.mpr ?_
    rcases List.eq_nil_or_concat l with rfl | ⟨r, x, rfl⟩
    · exact .inl (rise_allM n [] ⟨List.Pairwise.nil, fun _ z => nomatch z⟩)
    · obtain ⟨a, b⟩ := h
      rw [List.concat_eq_append] at a b ⊢
      obtain ⟨a1, _, a3⟩ := List.pairwise_append.mp a
      have lt : ∀ y ∈ r, y < x := fun y hy => a3 y hy x (List.mem_singleton.mpr rfl)
      have bx := b x (List.mem_append_right _ (List.mem_singleton.mpr rfl))
      by_cases e : x = (n : Int)
      · subst e
        refine .inr (List.mem_map.mpr ⟨r, rise_allM n r ⟨a1, fun m hm => ⟨(b m (List.mem_append_left _ hm)).1, lt m hm⟩⟩, rfl⟩)
      · refine .inl (rise_allM n _ ⟨a, fun m hm => ⟨(b m hm).1, ?_⟩⟩)
        rcases List.mem_append.mp hm with hm | hm
        · have := lt m hm
          omega
        · rw [List.mem_singleton.mp hm]
          omega
/-- passes from a number on -/
def passF : Int → List (Int × Int) → List Pass
  | _, [] => []
  | o, s :: r => (s.1, (if s.1 = 1 then o + 1 else o), s.2) :: passF (o + s.1) r
theorem passF_get : ∀ (ss : List (Int × Int)) (o : Int) (i : Nat) (s : Int × Int), ss[i]? = some s → (passF o ss)[i]? = some (s.1, o + toothN (ss.map (·.1)) i, s.2)
  | [], _, _, _, h => by simp at h
  | z :: r, o, 0, s, h => by
    cases Option.some.inj h
    show some (z.1, (if z.1 = 1 then o + 1 else o), z.2) = some (z.1, o + toothN (z.1 :: r.map (·.1)) 0, z.2)
    unfold toothN
    rw [List.getElem?_cons_zero, List.take_zero]
    by_cases e : z.1 = 1
    · rw [if_pos e, if_pos (by rw [e])]
      rfl
    · rw [if_neg e, if_neg (fun c => e (Option.some.inj c))]
      simp
  | z :: r, o, i + 1, s, h => by
    have := passF_get r (o + z.1) i s h
    show (passF (o + z.1) r)[i]? = _
    rw [this]
    show some (s.1, o + z.1 + toothN (r.map (·.1)) i, s.2) = some (s.1, o + toothN (z.1 :: r.map (·.1)) (i + 1), s.2)
    unfold toothN
    rw [List.getElem?_cons_succ, List.take_succ_cons, List.sum_cons]
    split <;> simp <;> omega
theorem passF_len : ∀ (ss : List (Int × Int)) (o : Int), (passF o ss).length = ss.length
  | [], _ => rfl
  | s :: r, o => by
    show (passF (o + s.1) r).length + 1 = _
    rw [passF_len r]
    rfl
theorem passN_F (ss : List (Int × Int)) : passN (ss.map (·.1)) ss ss.length = passF 0 ss := by
  obtain ⟨l, g⟩ := passN_all (ss.map (·.1)) ss ss.length (by rw [List.length_map]; exact Nat.le_refl _) (Nat.le_refl _)
  refine List.ext_getElem? fun i => ?_
  by_cases h : i < ss.length
  · obtain ⟨s, hs⟩ : ∃ s, ss[i]? = some s := ⟨_, List.getElem?_eq_getElem h⟩
    rw [g i s.1 s h (by rw [List.getElem?_map, hs]; rfl) hs, passF_get ss 0 i s hs, Int.zero_add]
  · rw [List.getElem?_eq_none (by omega), List.getElem?_eq_none (by rw [passF_len]; omega)]
/-- whether a wheel from place x on shows so -/
def shownB (t : Int) (ms : List Int) : Int → List (Int × Int) → Bool
  | _, [] => true
  | x, s :: r => decide ((pp (.wheel t ms) x s.1).2 = s.2) && shownB t ms (pp (.wheel t ms) x s.1).1 r
theorem shownB_does (t : Int) (ms : List Int) : ∀ (ss : List (Int × Int)) (o : Int), shownB t ms (o % t) ss = doesB t ms (passF o ss)
  | [], _ => rfl
  | s :: r, o => by
    show (decide ((if (if s.1 = 1 then (o % t + s.1) % t else o % t) ∈ ms then s.1 else 0) = s.2) && shownB t ms ((o % t + s.1) % t) r) = (decide (s.2 = if (if s.1 = 1 then o + 1 else o) % t ∈ ms then s.1 else 0) && doesB t ms (passF (o + s.1) r))
    rw [Int.emod_add_emod, shownB_does t ms r (o + s.1)]
    congr 1
    by_cases e : s.1 = 1
    · rw [if_pos e, if_pos e, e]
      exact decide_eq_decide.mpr ⟨Eq.symm, Eq.symm⟩
    · rw [if_neg e, if_neg e]
      exact decide_eq_decide.mpr ⟨Eq.symm, Eq.symm⟩
theorem ways_ok {ss : List (Int × Int)} (h : ∀ s ∈ ss, Sh2Ok s) : ∀ c ∈ ss.map (·.1), c = 1 ∨ c = 0 ∨ c = -1 := fun c hc => by
  obtain ⟨s, hs, rfl⟩ := List.mem_map.mp hc
  rcases (h s hs).1 with e | e
  · exact .inl e
  · exact .inr (.inr e)
def barD (b : Nat × Nat) : PyData := .tuple [.int b.1, .int b.2]
theorem barD_nl (bs : List (Nat × Nat)) : ∀ d ∈ bs.map barD, NL d := fun d hd => by
  obtain ⟨b, _, rfl⟩ := List.mem_map.mp hd
  refine .tup fun d hd => ?_
  rcases List.mem_cons.mp hd with e | hd
  · rw [e]; exact .int _
  · rw [List.mem_singleton.mp hd]; exact .int _
def SmNone (ps : List Pass) (j k : Nat) : Prop := (∃ p, ps[k]? = some p ∧ wrongB p = true ∧ j = k ∧ ∀ i q, i < k → ps[i]? = some q → wrongB q = false) ∨ ((∀ p ∈ ps, wrongB p = false) ∧ IsCl ps ps.length j k)
structure SmWheel (ps : List Pass) (t : Nat) (ms : List Int) (bars : List (Nat × Nat)) : Prop where
  nw : ∀ p ∈ ps, wrongB p = false
  t1 : 1 ≤ t
  tn : t ≤ max 1 ps.length
  free : freeB ps t = true
  marks : IsMarks ps t ms
  len : bars.length = t - 1
  bars : ∀ (i : Nat) (b : Nat × Nat), bars[i]? = some b → IsCl ps ((i + 1 : Nat) : Int) b.1 b.2
/-- what smallest_of tells, at g -/
def SmOk (K : PySem.W.Frag) (ps : List Pass) (H H' : Hp) (g : Addr) : Prop := H g = none ∧
  ((∃ j k : Nat, H' g = some (.tup [.str "none", .int j, .int k]) ∧ SmNone ps j k) ∨
   (∃ (t : Nat) (m b : Addr) (ms : List Int) (us : List V) (bars : List (Nat × Nat)), H' g = some (.tup [.str "wheel", .int t, .ref m, .ref b]) ∧ H' m = some (.tup (ms.map V.int)) ∧ H' b = some (.lst us) ∧ DpAll K H' us (bars.map barD) ∧ H m = none ∧ H b = none ∧ SmWheel ps t ms bars))
theorem none_does {ps : List Pass} {j k : Nat} (wk : Walky ps) (h : SmNone ps j k) (t : Int) (ms : List Int) : doesB t ms ps = false := by
  cases e : doesB t ms ps with
  | false => rfl
  | true =>
    obtain ⟨a, b, _⟩ := does_needs e
    rcases h with ⟨p, hp, w, _⟩ | ⟨_, c⟩
    · rw [a p (List.mem_of_getElem? hp)] at w
      cases w
    · exact absurd (hit_all wk c.1 c.2.1 t) (b j k c.1 c.2.1.lt)
theorem SmWheel.least {ps : List Pass} {t : Nat} {ms : List Int} {bars : List (Nat × Nat)} (h : SmWheel ps t ms bars) {u : Nat} (u1 : 1 ≤ u) (ut : u < t) (l : List Int) : doesB u l ps = false := by
  cases e : doesB u l ps with
  | false => rfl
  | true =>
    obtain ⟨_, b, _⟩ := does_needs e
    obtain ⟨x, hx⟩ : ∃ x, bars[u - 1]? = some x := ⟨_, List.getElem?_eq_getElem (by rw [h.len]; omega)⟩
    have c := h.bars _ _ hx
    rw [show u - 1 + 1 = u by omega] at c
    exact absurd c.2.1 (b _ _ c.1 c.2.1.lt)
end Ct
namespace Ct
open PySem PySem.Spec PyProof.Rows L2
/-- all numbers of teeth up to most that do -/
def teethB (ps : List Pass) (most : Nat) : List Int := if ps.any wrongB = true then [] else ((List.range most).map fun (i : Nat) => ((i + 1 : Nat) : Int)).filter fun t => freeB ps t
end Ct
namespace Ct
open PySem PySem.Spec PyProof.Rows L2
def marksF (ps : List Pass) (t : Nat) : List Int := ((List.range t).map fun (i : Nat) => (i : Int)).filter fun r => ps.any fun p => !decide (p.2.2 = 0) && decide (p.2.1 % (t : Int) = r)
theorem marksF_is (ps : List Pass) {t : Nat} (ht : 1 ≤ t) : IsMarks ps t (marksF ps t) := by
  refine ⟨List.Pairwise.filter _ ?_, fun r => ?_⟩
  · rw [List.pairwise_map]
    exact List.pairwise_lt_range.imp fun {a b} h => by omega
  · unfold marksF
    rw [List.mem_filter, List.any_eq_true]
    constructor
    · rintro ⟨_, p, hp, h⟩
      simp only [Bool.and_eq_true, Bool.not_eq_true', decide_eq_false_iff_not, decide_eq_true_eq] at h
      exact ⟨p, hp, h⟩
    · rintro ⟨p, hp, h1, h2⟩
      refine ⟨List.mem_map.mpr ⟨r.toNat, List.mem_range.mpr ?_, ?_⟩, p, hp, ?_⟩
      · have := Int.emod_lt_of_pos p.2.1 (b := (t : Int)) (by omega)
        omega
      · have := Int.emod_nonneg p.2.1 (b := (t : Int)) (by omega)
        omega
      · simp only [Bool.and_eq_true, Bool.not_eq_true', decide_eq_false_iff_not, decide_eq_true_eq]
        exact ⟨h1, h2⟩
def okT (ps : List Pass) (t : Int) : Bool := !ps.any wrongB && freeB ps t
theorem okT_of {ps : List Pass} {t : Int} {l : List Int} (h : doesB t l ps = true) : okT ps t = true := by
  obtain ⟨a, b, _⟩ := does_needs h
  have : ps.any wrongB = false := List.any_eq_false.mpr fun p hp => by rw [a p hp]; decide
  unfold okT
  rw [this, freeB_iff.mpr b]
  rfl
theorem okT_nw {ps : List Pass} {t : Int} (h : okT ps t = true) : (∀ p ∈ ps, wrongB p = false) ∧ freeB ps t = true := by
  unfold okT at h
  rw [Bool.and_eq_true] at h
  refine ⟨fun p hp => ?_, h.2⟩
  cases e : wrongB p with
  | false => rfl
  | true =>
    rw [List.any_eq_true.mpr ⟨p, hp, e⟩] at h
    exact nomatch h.1
theorem okT_does {ps : List Pass} {t : Nat} (ht : 1 ≤ t) (h : okT ps t = true) : doesB t (marksF ps t) ps = true := does_marks (okT_nw h).1 (freeB_iff.mp (okT_nw h).2) (marksF_is ps ht)
def fine (ps : List Pass) (t : Nat) : List (List Int) := (allM t).filter fun m => doesB t m ps
theorem fine_nil {ps : List Pass} {t : Nat} (ht : 1 ≤ t) (h : fine ps t = []) : okT ps t = false := by
  cases e : okT ps t with
  | false => rfl
  | true =>
    have : marksF ps t ∈ fine ps t := List.mem_filter.mpr ⟨rise_allM t _ ((marksF_is ps ht).rise (by omega)), okT_does ht e⟩
    rw [h] at this
    cases this
theorem fine_cons {ps : List Pass} {t : Nat} {m : List Int} (h : m ∈ fine ps t) : okT ps t = true := okT_of (List.mem_filter.mp h).2
def doesN (ps : List Pass) (n : Nat) : List Int := ((List.range n).map fun (i : Nat) => ((i + 1 : Nat) : Int)).filter fun t => okT ps t
theorem doesN_succ (ps : List Pass) (n : Nat) : doesN ps (n + 1) = doesN ps n ++ (if okT ps ((n + 1 : Nat) : Int) = true then [((n + 1 : Nat) : Int)] else []) := by
  unfold doesN
  rw [List.range_succ, List.map_append, List.filter_append]
  congr 1
  show List.filter (fun t => okT ps t) [((n + 1 : Nat) : Int)] = _
  by_cases e : okT ps ((n + 1 : Nat) : Int) = true
  · rw [if_pos e, List.filter_cons_of_pos (p := fun t => okT ps t) e, List.filter_nil]
  · rw [if_neg e, List.filter_cons_of_neg (p := fun t => okT ps t) e, List.filter_nil]
theorem mem_doesN {ps : List Pass} {n t : Nat} (t1 : 1 ≤ t) (tn : t ≤ n) (h : okT ps t = true) : (t : Int) ∈ doesN ps n := List.mem_filter.mpr ⟨List.mem_map.mpr ⟨t - 1, List.mem_range.mpr (by omega), by omega⟩, h⟩
theorem doesN_mem {ps : List Pass} {n : Nat} {x : Int} (h : x ∈ doesN ps n) : ∃ t : Nat, x = (t : Int) ∧ 1 ≤ t ∧ t ≤ n ∧ okT ps t = true := by
  obtain ⟨h1, h2⟩ := List.mem_filter.mp h
  obtain ⟨i, hi, rfl⟩ := List.mem_map.mp h1
  have := List.mem_range.mp hi
  exact ⟨i + 1, rfl, by omega, by omega, h2⟩
theorem doesN_len (ps : List Pass) (n : Nat) : (doesN ps n).length ≤ n := Nat.le_trans (List.length_filter_le _ _) (by rw [List.length_map, List.length_range]; exact Nat.le_refl _)
theorem teethB_eq (ps : List Pass) (n : Nat) : teethB ps n = doesN ps n := by
  unfold teethB doesN
  cases e : ps.any wrongB with
  | true =>
    rw [if_pos rfl]
    refine (List.filter_eq_nil_iff.mpr fun t _ => ?_).symm
    unfold okT
    rw [e]
    exact Bool.false_ne_true
  | false =>
    rw [if_neg Bool.false_ne_true]
    congr 1
    funext t
    unfold okT
    rw [e]
    rfl
def leastV : List Int → V
  | [] => .non
  | t :: _ => .int t
theorem SmWheel.okT {ps : List Pass} {t : Nat} {ms : List Int} {bars : List (Nat × Nat)} (h : SmWheel ps t ms bars) : Ct.okT ps t = true := okT_of (does_marks h.nw (freeB_iff.mp h.free) h.marks)
theorem SmWheel.mem {ps : List Pass} {t : Nat} {ms : List Int} {bars : List (Nat × Nat)} (h : SmWheel ps t ms bars) : ms ∈ fine ps t := List.mem_filter.mpr ⟨rise_allM t _ (h.marks.rise (by have := h.t1; omega)), does_marks h.nw (freeB_iff.mp h.free) h.marks⟩
theorem SmWheel.le {ps : List Pass} {t u : Nat} {ms : List Int} {bars : List (Nat × Nat)} (h : SmWheel ps t ms bars) (u1 : 1 ≤ u) (hu : Ct.okT ps u = true) : t ≤ u := by
  rcases Nat.lt_or_ge u t with z | z
  · have := h.least u1 z (marksF ps u)
    rw [okT_does u1 hu] at this
    cases this
  · exact z
theorem none_okT {ps : List Pass} {j k : Nat} (wk : Walky ps) (h : SmNone ps j k) {t : Nat} (t1 : 1 ≤ t) : okT ps t = false := by
  cases e : okT ps t with
  | false => rfl
  | true =>
    have := none_does wk h t (marksF ps t)
    rw [okT_does t1 e] at this
    cases this
theorem w_rNeW {H : Hp} {Q : VK} {x y : Str} {b : Bool} (e : (!decide (V.str x = V.str y)) = b) (h : Q (.bl b) H) : rNe (.str x) (.str y) H Q := ⟨rfl, by rw [e]; exact h⟩
end Ct
namespace Ct
open PySem PySem.Spec PyProof.Rows L2
/-- the spot that push i passes on t teeth -/
def spotV (cs : List Int) (t : Int) (i : Nat) : V := if cs[i]? = some 0 then .non else .int (toothN cs i % t)
/-- known by the first of each spot: whether it showed nothing -/
structure KeptB (ps : List Pass) (t : Int) (n : Nat) (kvs : List (Key × V)) : Prop where
  ex : ∃ k0, Kept ps t n k0 ∧ ∀ r, (valV k0 (Sum.inl r) = none → valV kvs (Sum.inl r) = none) ∧ ∀ (j : Nat) (p : Pass), valV k0 (Sum.inl r) = some (.int (j : Int)) → ps[j]? = some p → valV kvs (Sum.inl r) = some (.bl (decide (p.2.2 = 0)))
theorem KeptB.nil (ps : List Pass) (t : Int) : KeptB ps t 0 [] := ⟨[], ⟨(fun _ _ h => nomatch h), fun _ _ i _ hi => absurd hi (Nat.not_lt_zero i)⟩, fun _ => ⟨fun h => h, fun _ _ h => nomatch h⟩⟩
theorem KeptB.skip {ps : List Pass} {t : Int} {n : Nat} {kvs : List (Key × V)} (h : KeptB ps t n kvs) {q : Pass} (hq : ps[n]? = some q) (z : q.1 = 0) : KeptB ps t (n + 1) kvs := by
  obtain ⟨k0, a, b⟩ := h.ex
  exact ⟨k0, a.skip hq z, b⟩
/-- the first one at this spot is known: like it, or a hit -/
theorem KeptB.there {ps : List Pass} {t : Int} {n : Nat} {kvs : List (Key × V)} (h : KeptB ps t n kvs) {q : Pass} (hq : ps[n]? = some q) (hn : q.1 ≠ 0) {v : V} (e : valV kvs (Sum.inl (q.2.1 % t)) = some v) : ∃ b : Bool, v = .bl b ∧ (b = decide (q.2.2 = 0) → KeptB ps t (n + 1) kvs ∧ (NoHit ps t n → NoHit ps t (n + 1))) ∧ (b ≠ decide (q.2.2 = 0) → ∃ j, j < n ∧ Hit ps t j n) := by
  obtain ⟨k0, a, b⟩ := h.ex
  cases e0 : valV k0 (Sum.inl (q.2.1 % t)) with
  | none =>
    rw [(b _).1 e0] at e
    cases e
  | some u =>
    obtain ⟨j, p, rfl, jn, hj, c0, r0, first⟩ := a.is _ _ e0
    rw [(b _).2 j p e0 hj] at e
    cases Option.some.inj e
    refine ⟨_, rfl, fun eq => ⟨⟨k0, a.there hq e0, b⟩, fun nh => nh.more fun i hi ⟨p1, q1, e1, e2, e3, e4⟩ => ?_⟩, fun ne => ⟨j, jn, p, q, hj, hq, r0, ?_⟩⟩
    · cases Option.some.inj (hq.symm.trans e2)
      obtain ⟨n1, n2, n3⟩ := unlk_came e4
      by_cases c : i = j
      · subst c
        cases Option.some.inj (hj.symm.trans e1)
        exact n3 eq
      · by_cases lt : i < j
        · exact first i p1 lt e1 n1 e3
        · have un2 : unlk p p1 = false := by
            cases z : unlk p p1 with
            | false => rfl
            | true => exact absurd ⟨p, p1, hj, e1, by rw [r0, e3], z⟩ (nh j i (by omega) hi)
          exact n3 ((unlk_of c0 n1 un2).symm.trans eq)
    · unfold unlk
      rw [decide_eq_false c0, decide_eq_false hn]
      cases z : (decide (p.2.2 = 0) != decide (q.2.2 = 0)) with
      | true => rfl
      | false => exact absurd (by simpa using z) ne
theorem KeptB.new {ps : List Pass} {t : Int} {n : Nat} {kvs : List (Key × V)} (h : KeptB ps t n kvs) {q : Pass} (hq : ps[n]? = some q) (hn : q.1 ≠ 0) (e : valV kvs (Sum.inl (q.2.1 % t)) = none) : KeptB ps t (n + 1) (putK kvs (Sum.inl (q.2.1 % t)) (.bl (decide (q.2.2 = 0)))) ∧ (NoHit ps t n → NoHit ps t (n + 1)) := by
  obtain ⟨k0, a, b⟩ := h.ex
  have e0 : valV k0 (Sum.inl (q.2.1 % t)) = none := by
    cases z : valV k0 (Sum.inl (q.2.1 % t)) with
    | none => rfl
    | some u =>
      obtain ⟨j, p, rfl, jn, hj, _⟩ := a.is _ _ z
      rw [(b _).2 j p z hj] at e
      cases e
  refine ⟨⟨_, a.new hq hn e0, fun r => ?_⟩, fun nh => nh.more fun i hi ⟨p1, q1, e1, e2, e3, e4⟩ => ?_⟩
  · rw [valV_put, valV_put]
    by_cases c : (Sum.inl r : Key) = Sum.inl (q.2.1 % t)
    · rw [if_pos c, if_pos c]
      refine ⟨(fun z => nomatch z), fun j p z hj => ?_⟩
      have z := V.int.inj (Option.some.inj z)
      have : n = j := by omega
      subst this
      cases Option.some.inj (hq.symm.trans hj)
      rfl
    · rw [if_neg c, if_neg c]
      exact b r
  · cases Option.some.inj (hq.symm.trans e2)
    exact a.no _ e0 i p1 hi e1 (unlk_came e4).1 e3
def wrongAt (ps : List Pass) (k : Nat) : Bool := match ps[k]? with
  | some p => wrongB p
  | none => false
def wrongs (ps : List Pass) (n : Nat) : List Int := ((List.range n).filter (wrongAt ps)).map fun (k : Nat) => (k : Int)
theorem wrongs_succ {ps : List Pass} {n : Nat} {p : Pass} (h : ps[n]? = some p) : wrongs ps (n + 1) = wrongs ps n ++ (if wrongB p = true then [(n : Int)] else []) := by
  unfold wrongs
  rw [List.range_succ, List.filter_append, List.map_append]
  congr 1
  have e : wrongAt ps n = wrongB p := by unfold wrongAt; rw [h]
  by_cases c : wrongB p = true
  · rw [if_pos c, List.filter_cons_of_pos (by rw [e]; exact c), List.filter_nil]
    rfl
  · rw [if_neg c, List.filter_cons_of_neg (by rw [e]; exact c), List.filter_nil]
    rfl
theorem wrongs_len (ps : List Pass) (n : Nat) : (wrongs ps n).length ≤ n := by
  unfold wrongs
  rw [List.length_map]
  exact Nat.le_trans (List.length_filter_le _ _) (by rw [List.length_range]; exact Nat.le_refl _)
theorem wrongs_nil {ps : List Pass} (h : wrongs ps ps.length = []) : ∀ p ∈ ps, wrongB p = false := fun p hp => by
  obtain ⟨k, hk⟩ := List.mem_iff_getElem?.mp hp
  cases e : wrongB p with
  | false => rfl
  | true =>
    have : (k : Int) ∈ wrongs ps ps.length := List.mem_map.mpr ⟨k, List.mem_filter.mpr ⟨List.mem_range.mpr (List.getElem?_eq_some_iff.mp hk).1, by unfold wrongAt; rw [hk]; exact e⟩, rfl⟩
    rw [h] at this
    cases this
theorem wrongs_any {ps : List Pass} : ps.any wrongB = !decide (wrongs ps ps.length = []) := by
  by_cases h : wrongs ps ps.length = []
  · rw [decide_eq_true h]
    exact List.any_eq_false.mpr fun p hp => by rw [wrongs_nil h p hp]; decide
  · rw [decide_eq_false h]
    cases e : wrongs ps ps.length with
    | nil => exact absurd e h
    | cons x r =>
      have : x ∈ wrongs ps ps.length := by rw [e]; exact List.mem_cons_self
      obtain ⟨k, hk, _⟩ := List.mem_map.mp this
      obtain ⟨_, hk⟩ := List.mem_filter.mp hk
      unfold wrongAt at hk
      cases z : ps[k]? with
      | none => rw [z] at hk; cases hk
      | some p =>
        rw [z] at hk
        exact List.any_eq_true.mpr ⟨p, List.mem_of_getElem? z, hk⟩
theorem pass_at {cs : List Int} {ss : List (Int × Int)} (hl : cs.length = ss.length) {i : Nat} {c : Int} {s : Int × Int} (hc : cs[i]? = some c) (hs : ss[i]? = some s) : (passN cs ss ss.length)[i]? = some (c, toothN cs i, s.2) :=
  (passN_all cs ss ss.length (by omega) (Nat.le_refl _)).2 i c s (List.getElem?_eq_some_iff.mp hs).1 hc hs
theorem pass_len {cs : List Int} {ss : List (Int × Int)} (hl : cs.length = ss.length) : (passN cs ss ss.length).length = ss.length := (passN_all cs ss ss.length (by omega) (Nat.le_refl _)).1
end Ct
namespace Ct
open PySem PySem.Spec PyProof.Rows L2
theorem w_inL {K : PySem.W.Frag} {H : Hp} {Q : VK} {p : Addr} {x : Int} {ns : List Int} (h : SqL K H p (ns.map V.int)) (q : Q (.bl (decide (x ∈ ns))) H) : rIn K false (.int x) (.ref p) H Q := by
  refine ⟨p, ns.map V.int, rfl, .inl h, rfl, ?_, ?_⟩
  · rw [List.all_map]
    exact List.all_eq_true.mpr fun _ _ => rfl
  · rw [if_neg Bool.false_ne_true]
    rw [show inV (.int x) (ns.map V.int) = decide (x ∈ ns) from by
      unfold inV
      rw [List.any_map]
      by_cases e : x ∈ ns
      · rw [decide_eq_true e, List.any_eq_true]
        exact ⟨x, e, by show (x == x) = true; exact beq_self_eq_true x⟩
      · rw [decide_eq_false e, List.any_eq_false]
        intro y hy
        show ¬ (y == x) = true
        intro z
        exact e (eq_of_beq z ▸ hy)]
    exact q
theorem free_mul {ps : List Pass} {t k : Int} (h : freeB ps t = true) : freeB ps (t * k) = true := by
  refine freeB_iff.mpr fun j m jm mn ⟨p, q, hp, hq, e, u⟩ => freeB_iff.mp h j m jm mn ⟨p, q, hp, hq, ?_, u⟩
  have d : t ∣ t * k := ⟨k, rfl⟩
  rw [← Int.emod_emod_of_dvd p.2.1 d, e, Int.emod_emod_of_dvd q.2.1 d]
theorem teeth_mul {ps : List Pass} {most : Nat} {t : Int} (h : t ∈ teethB ps most) {k : Nat} (k1 : 1 ≤ k) (hk : t * k ≤ most) : t * (k : Int) ∈ teethB ps most := by
  unfold teethB at h ⊢
  by_cases e : ps.any wrongB = true
  · rw [if_pos e] at h
    cases h
  · rw [if_neg e] at h ⊢
    obtain ⟨h1, h2⟩ := List.mem_filter.mp h
    obtain ⟨i, hi, rfl⟩ := List.mem_map.mp h1
    have pos : 1 ≤ (((i + 1) * k : Nat) : Int) := by
      have := Nat.mul_pos (show 0 < i + 1 by omega) k1
      omega
    have e2 : ((i + 1 : Nat) : Int) * (k : Int) = (((i + 1) * k : Nat) : Int) := by rw [Int.natCast_mul]
    refine List.mem_filter.mpr ⟨List.mem_map.mpr ⟨(i + 1) * k - 1, List.mem_range.mpr ?_, ?_⟩, free_mul h2⟩
    · rw [e2] at hk
      omega
    · rw [e2]
      omega
theorem teethB_mem {ps : List Pass} {most : Nat} {t : Int} (h : t ∈ teethB ps most) : 1 ≤ t ∧ t ≤ most := by
  unfold teethB at h
  by_cases e : ps.any wrongB = true
  · rw [if_pos e] at h
    cases h
  · rw [if_neg e] at h
    obtain ⟨i, hi, rfl⟩ := List.mem_map.mp (List.mem_filter.mp h).1
    have := List.mem_range.mp hi
    omega
theorem teethB_len (ps : List Pass) (most : Nat) : (teethB ps most).length ≤ most := by
  unfold teethB
  split
  · exact Nat.zero_le _
  · exact Nat.le_trans (List.length_filter_le _ _) (by rw [List.length_map, List.length_range]; exact Nat.le_refl _)
end Ct
namespace Ct
open PySem PySem.Spec PyProof.Rows L2
theorem wrongs_first {ps : List Pass} {n : Nat} {x : Int} {r : List Int} (h : wrongs ps n = x :: r) : ∃ (k : Nat) (p : Pass), x = (k : Int) ∧ ps[k]? = some p ∧ wrongB p = true ∧ ∀ i q, i < k → ps[i]? = some q → wrongB q = false := by
  have up : (wrongs ps n).Pairwise (· < ·) := by
    unfold wrongs
    rw [List.pairwise_map]
    exact (List.Pairwise.filter _ List.pairwise_lt_range).imp fun {a b} h => by omega
  have mem : x ∈ wrongs ps n := by rw [h]; exact List.mem_cons_self
  obtain ⟨k, hk, rfl⟩ := List.mem_map.mp mem
  obtain ⟨kr, hk⟩ := List.mem_filter.mp hk
  unfold wrongAt at hk
  cases z : ps[k]? with
  | none => rw [z] at hk; cases hk
  | some p =>
    rw [z] at hk
    refine ⟨k, p, rfl, z, hk, fun i q hi hq => ?_⟩
    cases e : wrongB q with
    | false => rfl
    | true =>
      have mi : (i : Int) ∈ wrongs ps n := List.mem_map.mpr ⟨i, List.mem_filter.mpr ⟨List.mem_range.mpr (by have := List.mem_range.mp kr; omega), by unfold wrongAt; rw [hq]; exact e⟩, rfl⟩
      rw [h] at mi up
      rcases List.mem_cons.mp mi with c | c
      · omega
      · have := (List.pairwise_cons.mp up).1 _ c
        omega
end Ct
namespace Ct
open PySem PySem.Spec PyProof.Rows L2
theorem comes_ok {ps : List Part} {xs : List Int} {ss : List (Int × Int)} (h : ∀ s ∈ ss, Sh2Ok s) : ∀ c ∈ (fedS ps xs (ss.map (·.1))).2, c = 1 ∨ c = 0 ∨ c = -1 := fun c hc => by
  rcases fedS_sg (ps := ps) (ss := ss.map (·.1)) (xs := xs) (fun s hs => by
    obtain ⟨z, hz, rfl⟩ := List.mem_map.mp hs
    exact .inr (h z hz).1) c hc with e | e | e
  · exact .inr (.inl e)
  · exact .inl e
  · exact .inr (.inr e)
end Ct

/-! what the smallest wheel is told as -/
namespace Ct
open PySem PySem.Spec PyProof.Rows L2
def noneD (j k : Nat) : PyData := .tuple [.str "none", .int j, .int k]
def wheelD (t : Nat) (ms : List Int) (bars : List (Nat × Nat)) : PyData := .tuple [.str "wheel", .int t, tupD ms, .list (bars.map barD)]
theorem okIs_bars {bs : List (Nat × Nat)} (h : ∀ b ∈ bs, b.1 ≤ 1000 ∧ b.2 ≤ 1000) : okIs (bs.map barD) = true := by
  induction bs with
  | nil => rfl
  | cons b r ih =>
    have hb := h b List.mem_cons_self
    rw [List.map_cons, okIs, ih fun x hx => h x (List.mem_cons_of_mem _ hx)]
    have : okI (barD b) = true := by
      have := okIs_ints (ms := [(b.1 : Int), (b.2 : Int)]) (fun m hm => by
        rcases List.mem_cons.mp hm with e | hm
        · rw [e]; omega
        · rw [List.mem_singleton.mp hm]; omega)
      exact this
    rw [this]
    rfl
theorem bulk_bars (bs : List (Nat × Nat)) : PyData.bulkAll (bs.map barD) = 3 * bs.length := by
  induction bs with
  | nil => rfl
  | cons b r ih =>
    rw [List.map_cons, PyData.bulkAll, ih, List.length_cons]
    have : PyData.bulk (barD b) = 2 := rfl
    omega
theorem lay_bars (bs : List (Nat × Nat)) : (PyData.list (bs.map barD)).canLay0 = true ∧ (PyData.list (bs.map barD)).depth ≤ 2 := lay_lst fun d hd => by
  obtain ⟨b, _, rfl⟩ := List.mem_map.mp hd
  exact lay_tup (n := 0) (lay_ints [(b.1 : Int), (b.2 : Int)] 0)
theorem lay_noneD (j k : Nat) : (noneD j k).canLay0 = true ∧ (noneD j k).depth ≤ 1 := lay_tup (n := 0) fun d hd => by
  rcases List.mem_cons.mp hd with rfl | hd
  · exact ⟨by decide +kernel, Nat.le_refl _⟩
  exact lay_ints [(j : Int), (k : Int)] 0 d hd
theorem lay_wheelD (t : Nat) (ms : List Int) (bars : List (Nat × Nat)) : (wheelD t ms bars).canLay0 = true ∧ (wheelD t ms bars).depth ≤ 3 := lay_tup (n := 2) fun d hd => by
  rcases List.mem_cons.mp hd with rfl | hd
  · exact ⟨by decide +kernel, Nat.zero_le _⟩
  rcases List.mem_cons.mp hd with rfl | hd
  · exact ⟨rfl, Nat.zero_le _⟩
  rcases List.mem_cons.mp hd with rfl | hd
  · exact ⟨(lay_tupD ms).1, Nat.le_trans (lay_tupD ms).2 (by decide)⟩
  rw [List.mem_singleton.mp hd]
  exact lay_bars bars
theorem shw_none {j k : Nat} (hj : j ≤ 1000) (hk : k ≤ 1000) : Shw (noneD j k) := by
  refine ⟨?_, ⟨(lay_noneD j k).1, Nat.le_trans (lay_noneD j k).2 (by decide)⟩, by show PyData.bulk (.str "none") + 1 + (0 + 1 + (0 + 1 + 0)) ≤ 5000; decide +kernel⟩
  have := okIs_ints (ms := [(j : Int), (k : Int)]) (fun m hm => by
    rcases List.mem_cons.mp hm with e | hm
    · rw [e]; omega
    · rw [List.mem_singleton.mp hm]; omega)
  show (okI (.str "none") && okIs (List.map PyData.int [(j : Int), (k : Int)])) = true
  rw [this]
  decide +kernel
theorem shw_wheel {t : Nat} {ms : List Int} {bars : List (Nat × Nat)} (ht : t ≤ 1000) (hm : ∀ m ∈ ms, m.natAbs < 2 ^ 20) (ml : ms.length ≤ 1000) (hb : ∀ b ∈ bars, b.1 ≤ 1000 ∧ b.2 ≤ 1000) (bl : bars.length ≤ 1000) : Shw (wheelD t ms bars) := by
  refine ⟨?_, ⟨(lay_wheelD t ms bars).1, Nat.le_trans (lay_wheelD t ms bars).2 (by decide)⟩, ?_⟩
  · show (okI (.str "wheel") && (decide ((t : Int).natAbs < 2 ^ 200) && (okIs (ms.map PyData.int) && (okIs (bars.map barD) && true)))) = true
    rw [okIs_ints hm, okIs_bars hb, decide_eq_true (by omega)]
    decide +kernel
  · show PyData.bulk (.str "wheel") + 1 + (0 + 1 + (PyData.bulkAll (ms.map PyData.int) + 1 + (PyData.bulkAll (bars.map barD) + 1 + 0))) ≤ 5000
    rw [bulk_ints, bulk_bars]
    have : PyData.bulk (.str "wheel") = 5 := rfl
    omega
/-- the told thing at g, and its data -/
def SmT (K : PySem.W.Frag) (ps : List Pass) (H : Hp) (g : Addr) : Prop :=
  (∃ j k : Nat, H g = some (.tup [.str "none", .int j, .int k]) ∧ SmNone ps j k) ∨
   (∃ (t : Nat) (m b : Addr) (ms : List Int) (us : List V) (bars : List (Nat × Nat)), H g = some (.tup [.str "wheel", .int t, .ref m, .ref b]) ∧ H m = some (.tup (ms.map V.int)) ∧ H b = some (.lst us) ∧ DpAll K H us (bars.map barD) ∧ SmWheel ps t ms bars)
theorem SmOk.t {K : PySem.W.Frag} {ps : List Pass} {H H' : Hp} {g : Addr} (h : SmOk K ps H H' g) : SmT K ps H' g := by
  rcases h.2 with h | ⟨t, m, b, ms, us, bars, h1, h2, h3, h4, _, _, h7⟩
  · exact .inl h
  · exact .inr ⟨t, m, b, ms, us, bars, h1, h2, h3, h4, h7⟩
theorem SmT.same {K : PySem.W.Frag} {ps : List Pass} {H H' : Hp} {g : Addr} (h : SmT K ps H g) (s : Same H H') : SmT K ps H' g := by
  rcases h with ⟨j, k, h1, h2⟩ | ⟨t, m, b, ms, us, bars, h1, h2, h3, h4, h7⟩
  · exact .inl ⟨j, k, s _ _ h1, h2⟩
  · exact .inr ⟨t, m, b, ms, us, bars, s _ _ h1, s _ _ h2, s _ _ h3, dpAll_same s h4, h7⟩
theorem SmWheel.mlen {ps : List Pass} {t : Nat} {ms : List Int} {bars : List (Nat × Nat)} (h : SmWheel ps t ms bars) : ms.length ≤ t := by
  have mr := h.marks.rise (by have := h.t1; omega)
  have := sub_len ms ((List.range t).map fun (j : Nat) => (j : Int)) (rise_nodup mr.1) fun x hx => List.mem_map.mpr ⟨x.toNat, List.mem_range.mpr (by have := mr.2 x hx; omega), by have := mr.2 x hx; omega⟩
  rw [List.length_map, List.length_range] at this
  exact this
theorem SmNone.lt {ps : List Pass} {j k : Nat} (h : SmNone ps j k) : k < ps.length ∧ j ≤ k := by
  rcases h with ⟨p, hp, _, e, _⟩ | ⟨_, c⟩
  · exact ⟨(List.getElem?_eq_some_iff.mp hp).1, Nat.le_of_eq e⟩
  · exact ⟨c.2.1.lt, Nat.le_of_lt c.1⟩
/-- of one list of passes one thing alone is told -/
theorem SmT.data {K : PySem.W.Frag} {ps : List Pass} (wk : Walky ps) (pl : ps.length ≤ 1000) {H : Hp} {g : Addr} (h : SmT K ps H g) : ∃ d, Shw d ∧ Dp K H (.ref g) d ∧ ∀ (H' : Hp) (g' : Addr), SmT K ps H' g' → Dp K H' (.ref g') d := by
  have wheelDp : ∀ {H : Hp} {g m b : Addr} {t : Nat} {ms : List Int} {us : List V} {bars : List (Nat × Nat)}, H g = some (.tup [.str "wheel", .int t, .ref m, .ref b]) → H m = some (.tup (ms.map V.int)) → H b = some (.lst us) → DpAll K H us (bars.map barD) → Dp K H (.ref g) (wheelD t ms bars) := fun h1 h2 h3 h4 => .tup (.of h1) (.cons (.str _) (.cons (.int _) (.cons (tupD_dp (.of h2)) (.cons (.lst (.of h3) h4) .nil))))
  rcases h with ⟨j, k, h1, h2⟩ | ⟨t, m, b, ms, us, bars, h1, h2, h3, h4, h7⟩
  · have lt := h2.lt
    refine ⟨noneD j k, shw_none (by omega) (by omega), .tup (.of h1) (.cons (.str _) (.cons (.int _) (.cons (.int _) .nil))), fun H' g' h' => ?_⟩
    rcases h' with ⟨j', k', h1', h2'⟩ | ⟨t, m, b, ms, us, bars, _, _, _, _, h7⟩
    · have e : j = j' ∧ k = k' := by
        rcases h2 with ⟨p, hp, w, jk, f⟩ | ⟨nw, c⟩ <;> rcases h2' with ⟨p', hp', w', jk', f'⟩ | ⟨nw', c'⟩
        · have : k = k' := by
            rcases Nat.lt_trichotomy k k' with z | z | z
            · rw [f' k p z hp] at w
              cases w
            · exact z
            · rw [f k' p' z hp'] at w'
              cases w'
          exact ⟨by omega, this⟩
        · rw [nw' p (List.mem_of_getElem? hp)] at w
          cases w
        · rw [nw p' (List.mem_of_getElem? hp')] at w'
          cases w'
        · exact c.uniq c'
      rw [e.1, e.2]
      exact .tup (.of h1') (.cons (.str _) (.cons (.int _) (.cons (.int _) .nil)))
    · have := none_okT wk h2 h7.t1
      rw [h7.okT] at this
      cases this
  · have t1 := h7.t1
    have tn := h7.tn
    have mr := h7.marks.rise (by omega)
    refine ⟨wheelD t ms bars, shw_wheel (by omega) (fun m hm => by have := mr.2 m hm; omega) (by have := h7.mlen; omega) (fun b hb => ?_) (by have := h7.len; omega), wheelDp h1 h2 h3 h4, fun H' g' h' => ?_⟩
    · obtain ⟨i, hi⟩ := List.mem_iff_getElem?.mp hb
      have c := h7.bars i b hi
      have := c.2.1.lt
      have := c.1
      omega
    · rcases h' with ⟨j', k', h1', h2'⟩ | ⟨t', m', b', ms', us', bars', h1', h2', h3', h4', h7'⟩
      · have := none_okT wk h2' h7.t1
        rw [h7.okT] at this
        cases this
      · have te : t = t' := Nat.le_antisymm (h7.le h7'.t1 h7'.okT) (h7'.le h7.t1 h7.okT)
        subst te
        have me := h7.marks.uniq h7'.marks
        subst me
        have be : bars = bars' := by
          refine List.ext_getElem? fun i => ?_
          by_cases z : i < bars.length
          · have z' : i < bars'.length := by rw [h7'.len, ← h7.len]; exact z
            obtain ⟨x, hx⟩ : ∃ x, bars[i]? = some x := ⟨_, List.getElem?_eq_getElem z⟩
            obtain ⟨y, hy⟩ : ∃ y, bars'[i]? = some y := ⟨_, List.getElem?_eq_getElem z'⟩
            have u := (h7.bars i x hx).uniq (h7'.bars i y hy)
            rw [hx, hy, show x = y from Prod.ext u.1 u.2]
          · rw [List.getElem?_eq_none (by omega), List.getElem?_eq_none (by rw [h7'.len, ← h7.len]; omega)]
        subst be
        exact wheelDp h1' h2' h3' h4'
/-- what is due, at g -/
def DueOk (K : PySem.W.Frag) (ps : List Pass) (H : Hp) (g : Addr) : Prop :=
  (∃ (k : Nat) (p : Pass), H g = some (.tup [.str "none", .int k]) ∧ ps[k]? = some p ∧ wrongB p = true ∧ ∀ i q, i < k → ps[i]? = some q → wrongB q = false) ∨
  ((∀ p ∈ ps, wrongB p = false) ∧ freeB ps ((ps.length + 1 : Nat) : Int) = false ∧ H g = some (.tup [.str "none", .non])) ∨
  ((∀ p ∈ ps, wrongB p = false) ∧ freeB ps ((ps.length + 1 : Nat) : Int) = true ∧ ∃ (t : Nat) (m : Addr) (ms : List Int), 1 ≤ t ∧ freeB ps t = true ∧ (∀ u : Nat, 1 ≤ u → u < t → freeB ps u = false) ∧ H g = some (.tup [.str "wheel", .int t, .ref m]) ∧ H m = some (.tup (ms.map V.int)) ∧ IsMarks ps t ms)
theorem hit_more {ps : List Pass} (wk : Walky ps) {j k : Nat} (jk : j < k) (h : Hit ps ((ps.length + 1 : Nat) : Int) j k) (t : Int) : Hit ps t j k := by
  obtain ⟨p, q, e1, e2, e3, e4⟩ := h
  obtain ⟨a, b⟩ := wk j k p q jk e1 e2
  exact ⟨p, q, e1, e2, by rw [emod_near e3 (by omega) (by omega)], e4⟩
theorem free_any {ps : List Pass} (wk : Walky ps) {t : Int} (h : freeB ps t = true) : freeB ps ((ps.length + 1 : Nat) : Int) = true := freeB_iff.mpr fun j k jk kn z => freeB_iff.mp h j k jk kn (hit_more wk jk z t)
end Ct
namespace Ct
open PySem PySem.Spec PyProof.Rows L2
theorem okT_mk {ps : List Pass} {t : Int} (nw : ∀ p ∈ ps, wrongB p = false) (h : freeB ps t = true) : okT ps t = true := by
  have : ps.any wrongB = false := List.any_eq_false.mpr fun p hp => by rw [nw p hp]; decide
  unfold okT
  rw [this, h]
  rfl
/-- what is told and what is due go together -/
theorem due_told {K : PySem.W.Frag} {ps : List Pass} (wk : Walky ps) {H H' : Hp} {g d : Addr} (h : SmT K ps H g) (u : DueOk K ps H' d) :
    (∃ k : Nat, H g = some (.tup [.str "none", .int k, .int k]) ∧ H' d = some (.tup [.str "none", .int k])) ∨
    (∃ j k : Nat, H g = some (.tup [.str "none", .int j, .int k]) ∧ H' d = some (.tup [.str "none", .non]) ∧ j < k ∧ ∀ t : Int, Hit ps t j k) ∨
    (∃ (t : Nat) (m b m' : Addr) (ms : List Int) (us : List V) (bars : List (Nat × Nat)), H g = some (.tup [.str "wheel", .int t, .ref m, .ref b]) ∧ H m = some (.tup (ms.map V.int)) ∧ H b = some (.lst us) ∧ DpAll K H us (bars.map barD) ∧ SmWheel ps t ms bars ∧
      H' d = some (.tup [.str "wheel", .int t, .ref m']) ∧ H' m' = some (.tup (ms.map V.int))) := by
  rcases h with ⟨j, k, h1, sn⟩ | ⟨t, m, b, ms, us, bars, h1, h2, h3, h4, sw⟩
  · rcases sn with ⟨p, hp, wr, jk, first⟩ | ⟨nw, c⟩
    · have no : ¬ ∀ p ∈ ps, wrongB p = false := fun z => by
        rw [z p (List.mem_of_getElem? hp)] at wr
        cases wr
      rcases u with ⟨k', p', hd, hp', wr', first'⟩ | ⟨nw, _⟩ | ⟨nw, _⟩
      · have e : k = k' := by
          rcases Nat.lt_trichotomy k k' with z | z | z
          · rw [first' k p z hp] at wr
            cases wr
          · exact z
          · rw [first k' p' z hp'] at wr'
            cases wr'
        subst e jk
        exact .inl ⟨_, h1, hd⟩
      · exact absurd nw no
      · exact absurd nw no
    · have all : ∀ t : Int, Hit ps t j k := fun t => hit_all wk c.1 c.2.1 t
      rcases u with ⟨k', p', hd, hp', wr', _⟩ | ⟨_, _, hd⟩ | ⟨_, f, _⟩
      · rw [nw p' (List.mem_of_getElem? hp')] at wr'
        cases wr'
      · exact .inr (.inl ⟨j, k, h1, hd, c.1, all⟩)
      · exact absurd (all _) (freeB_iff.mp f j k c.1 c.2.1.lt)
  · rcases u with ⟨k', p', hd, hp', wr', _⟩ | ⟨_, f, _⟩ | ⟨nw, _, t', m', ms', t1', f', low, hd, hm, im⟩
    · rw [sw.nw p' (List.mem_of_getElem? hp')] at wr'
      cases wr'
    · rw [free_any wk sw.free] at f
      cases f
    · have le1 := sw.le t1' (okT_mk nw f')
      have te : t = t' := by
        rcases Nat.lt_or_ge t t' with z | z
        · have := low t sw.t1 z
          rw [sw.free] at this
          cases this
        · omega
      subst te
      have me := sw.marks.uniq im
      subst me
      exact .inr (.inr ⟨t, m, b, m', ms, us, bars, h1, h2, h3, h4, sw, hd, hm⟩)
end Ct
namespace Ct
open PySem PySem.Spec PyProof.Rows L2
/-- as SmT, its list at a place of which Pb speaks -/
def SmTp (K : PySem.W.Frag) (Pb : Addr → Prop) (ps : List Pass) (H : Hp) (g : Addr) : Prop :=
  (∃ j k : Nat, H g = some (.tup [.str "none", .int j, .int k]) ∧ SmNone ps j k) ∨
   (∃ (t : Nat) (m b : Addr) (ms : List Int) (us : List V) (bars : List (Nat × Nat)), H g = some (.tup [.str "wheel", .int t, .ref m, .ref b]) ∧ H m = some (.tup (ms.map V.int)) ∧ Pb b ∧ H b = some (.lst us) ∧ DpAll K H us (bars.map barD) ∧ SmWheel ps t ms bars)
theorem SmTp.t {K : PySem.W.Frag} {Pb : Addr → Prop} {ps : List Pass} {H : Hp} {g : Addr} (h : SmTp K Pb ps H g) : SmT K ps H g := by
  rcases h with h | ⟨t, m, b, ms, us, bars, h1, h2, _, h3, h4, h7⟩
  · exact .inl h
  · exact .inr ⟨t, m, b, ms, us, bars, h1, h2, h3, h4, h7⟩
theorem SmTp.same {K : PySem.W.Frag} {Pb : Addr → Prop} {ps : List Pass} {H H' : Hp} {g : Addr} (h : SmTp K Pb ps H g) (s : Same H H') : SmTp K Pb ps H' g := by
  rcases h with ⟨j, k, h1, h2⟩ | ⟨t, m, b, ms, us, bars, h1, h2, nb, h3, h4, h7⟩
  · exact .inl ⟨j, k, s _ _ h1, h2⟩
  · exact .inr ⟨t, m, b, ms, us, bars, s _ _ h1, s _ _ h2, nb, s _ _ h3, dpAll_same s h4, h7⟩
theorem tup_keep {H : Hp} {a l : Addr} {xs ws : List V} {o : HO} (ha : H a = some (.tup xs)) (hl : H l = some (.lst ws)) : upd H l o a = some (.tup xs) := by
  rw [upd_ne (fun z => by rw [z, hl] at ha; cases ha)]
  exact ha
theorem SmTp.put {K : PySem.W.Frag} {Pb : Addr → Prop} {kl : Addr} {ps : List Pass} {H : Hp} {g : Addr} {ws : List V} {o : HO} (h : SmTp K Pb ps H g) (hl : H kl = some (.lst ws)) (no : ∀ b, Pb b → b ≠ kl) : SmTp K Pb ps (upd H kl o) g := by
  rcases h with ⟨j, k, h1, h2⟩ | ⟨t, m, b, ms, us, bars, h1, h2, nb, h3, h4, h7⟩
  · exact .inl ⟨j, k, tup_keep h1 hl, h2⟩
  · exact .inr ⟨t, m, b, ms, us, bars, tup_keep h1 hl, tup_keep h2 hl, nb, by rw [upd_ne (no b nb)]; exact h3, dpAll_wr hl h4 (barD_nl bars), h7⟩
theorem SmOk.f {K : PySem.W.Frag} {ps : List Pass} {H H' : Hp} {g : Addr} (h : SmOk K ps H H' g) : SmTp K (fun b => H b = none) ps H' g := by
  rcases h.2 with h | ⟨t, m, b, ms, us, bars, h1, h2, h3, h4, _, nb, h7⟩
  · exact .inl h
  · exact .inr ⟨t, m, b, ms, us, bars, h1, h2, nb, h3, h4, h7⟩
theorem SmTp.imp {K : PySem.W.Frag} {Pb Pc : Addr → Prop} {ps : List Pass} {H : Hp} {g : Addr} (h : SmTp K Pb ps H g) (i : ∀ b, Pb b → Pc b) : SmTp K Pc ps H g := by
  rcases h with h | ⟨t, m, b, ms, us, bars, h1, h2, nb, h3, h4, h7⟩
  · exact .inl h
  · exact .inr ⟨t, m, b, ms, us, bars, h1, h2, i b nb, h3, h4, h7⟩
theorem ne_of_free {H : Hp} {kl b : Addr} {o : HO} (hl : H kl = some o) (nb : H b = none) : b ≠ kl := fun z => by
  rw [z, hl] at nb
  cases nb
/-- an entry that is kept: what was told, and its text -/
def KeptE (K : PySem.W.Frag) (kl : Addr) (G : Hp) (v : V) (x : Str) : Prop := ∃ (e g : Addr) (ps : List Pass) (d : PyData), v = .ref e ∧ G e = some (.tup [.ref g, .str x]) ∧ x = d.shown ∧ Shw d ∧ SmTp K (· ≠ kl) ps G g ∧ ∀ G', SmT K ps G' g → Dp K G' (.ref g) d
theorem KeptE.same {K : PySem.W.Frag} {kl : Addr} {G G' : Hp} {v : V} {x : Str} (h : KeptE K kl G v x) (s : Same G G') : KeptE K kl G' v x := by
  obtain ⟨e, g, ps, d, h1, h2, h3, h4, h5, h6⟩ := h
  exact ⟨e, g, ps, d, h1, s _ _ h2, h3, h4, h5.same s, h6⟩
theorem KeptE.put {K : PySem.W.Frag} {kl : Addr} {G : Hp} {v : V} {x : Str} {ws : List V} {o : HO} (h : KeptE K kl G v x) (hl : G kl = some (.lst ws)) : KeptE K kl (upd G kl o) v x := by
  obtain ⟨e, g, ps, d, h1, h2, h3, h4, h5, h6⟩ := h
  exact ⟨e, g, ps, d, h1, tup_keep h2 hl, h3, h4, h5.put hl (fun _ z => z), h6⟩
inductive KeptAll (K : PySem.W.Frag) (kl : Addr) (G : Hp) : List V → List Str → Prop
  | nil : KeptAll K kl G [] []
  | cons {v : V} {x : Str} {vs : List V} {xs : List Str} : KeptE K kl G v x → KeptAll K kl G vs xs → KeptAll K kl G (v :: vs) (x :: xs)
theorem KeptAll.same {K : PySem.W.Frag} {kl : Addr} {G G' : Hp} (s : Same G G') : ∀ {vs : List V} {xs : List Str}, KeptAll K kl G vs xs → KeptAll K kl G' vs xs
  | _, _, .nil => .nil
  | _, _, .cons h t => .cons (h.same s) (t.same s)
theorem KeptAll.put {K : PySem.W.Frag} {kl : Addr} {G : Hp} {ws : List V} {o : HO} (hl : G kl = some (.lst ws)) : ∀ {vs : List V} {xs : List Str}, KeptAll K kl G vs xs → KeptAll K kl (upd G kl o) vs xs
  | _, _, .nil => .nil
  | _, _, .cons h t => .cons (h.put hl) (t.put hl)
theorem KeptAll.add {K : PySem.W.Frag} {kl : Addr} {G : Hp} {v : V} {x : Str} (h : KeptE K kl G v x) : ∀ {vs : List V} {xs : List Str}, KeptAll K kl G vs xs → KeptAll K kl G (vs ++ [v]) (xs ++ [x])
  | _, _, .nil => .cons h .nil
  | _, _, .cons a t => .cons a (t.add h)
theorem KeptAll.len {K : PySem.W.Frag} {kl : Addr} {G : Hp} : ∀ {vs : List V} {xs : List Str}, KeptAll K kl G vs xs → vs.length = xs.length
  | _, _, .nil => rfl
  | _, _, .cons _ t => by rw [List.length_cons, List.length_cons, t.len]
theorem KeptAll.get {K : PySem.W.Frag} {kl : Addr} {G : Hp} : ∀ {vs : List V} {xs : List Str} {i : Nat} {v : V}, KeptAll K kl G vs xs → vs[i]? = some v → ∃ x, xs[i]? = some x ∧ KeptE K kl G v x
  | _, _, _, _, .nil, e => by simp at e
  | _, _, 0, _, .cons h _, e => by
    cases Option.some.inj e
    exact ⟨_, rfl, h⟩
  | _, _, i + 1, _, .cons _ t, e => t.get (i := i) e
theorem paired_strs (K : PySem.W.Frag) (H : Hp) : ∀ xs : List Str, Paired (EqV K H 1) (xs.map V.str) (xs.map V.str)
  | [] => .nil
  | x :: xs => .cons (.inl ⟨rfl, rfl⟩) (paired_strs K H xs)
end Ct
namespace Ct
open PySem PySem.Spec PyProof.Rows L2
theorem w_bmN {K : PySem.W.Frag} {H : Hp} {σ : L2.St} {Q : VK} {T : String} {r : V → List V → Hp → VK → Prop} {to : TE} (h : to σ H fun x H1 => tyV K T x H1 ∧ r x [] H1 Q) : tBM0 K T r to σ H Q := h
theorem lay_two (ps : List Part) (ss : List (Int × Int)) : (PyData.list [.list (ps.map Part.data), .list (ss.map sh2D)]).canLay0 = true ∧ (PyData.list [.list (ps.map Part.data), .list (ss.map sh2D)]).depth ≤ 5 := lay_lst (n := 4) fun d hd => by
  rcases List.mem_cons.mp hd with rfl | hd
  · exact ⟨(lay_train ps).1, Nat.le_trans (lay_train ps).2 (by decide)⟩
  · rw [List.mem_singleton.mp hd]
    exact ⟨(lay_sh2s ss).1, Nat.le_trans (lay_sh2s ss).2 (by decide)⟩
end Ct

/-! set comprehensions, sorted(set) of any number of whole numbers -/
namespace Ct
open PySem PySem.Spec PyProof.Rows L2
/-- the sets that a comprehension may make: what is tracked of one, how it begins, what one member more makes of it -/
structure SetKd (X : Cx) (α : Type) where
  O : Addr → α → HO
  nil : α
  more : Hp → α → V → α → Prop
  laid : ∀ (H : Hp) (h : Heap), ObjOk X.prog X.w H (h.push { cls := .type "set", dict := none, data := .set #[] 0 (.fresh 0 0 (!X.w.params.followText "set-order")) }) h.objs.size (O h.objs.size nil)
  add : ∀ (Y : Cx), Y.prog = X.prog → Y.w = X.w → Y.A = X.A → Y.calm = X.calm → Y.K = X.K → ∀ {pins : List (Addr × Obj)} {σ : L2.St} {H : Hp} {s : Shared} {E : Value → Shared → Prop} {D : Addr} {x x' : α} {y : V} {u : Value} {Q : Value → Shared → Prop}, Inv Y pins σ H s → H D = some (O D x) → RelV y u → more H x y x' →
    (∀ z, Inv Y pins σ (upd H D (O D x')) z → Q .none z) → wpAny (model Y.prog Y.w) Y.A (call (.builtin "set.add") [.ref D, u]) Q E s
section
variable {X : Cx} {α : Type}
/-- {elt for target in iter if ..}; D the new set -/
def tScG (O : Addr → α → HO) (nil : α) (more : Hp → α → V → α → Prop) (wi : TI) (g : TG) (tt : TT) (te : TE) (vs : List Nat) : TE := fun σ H Q => wi σ H fun J H1 => ∀ D, H1 D = none → ∃ W : Nat → Nat → Hp → Prop, (∃ m, W 0 m (upd H1 D (O D nil))) ∧ ∀ i m Hi, W i m Hi →
  (J.stop i Hi ∧ Q (.ref D) Hi) ∨ (J.go i Hi ∧ ∃ Nx : Hp → Prop, (∀ H', Nx H' → ∃ m', m' < m ∧ W (i + 1) m' H') ∧ ∀ x H', J.yld i Hi x H' → g x (wipe σ vs) H' fun σ2 H2 => wipe σ2 vs = wipe σ vs ∧ tt σ2 H2 fun yes H3 =>
    if yes = true then te σ2 H3 fun y H4 => ∃ x x' : α, H4 D = some (O D x) ∧ more H4 x y x' ∧ Nx (upd H4 D (O D x')) else Nx H3)
theorem scG_core (kd : SetKd X α) {pins : List (Addr × Obj)} {s : Shared} {σ : L2.St} {H : Hp} {Q : VK} {use : Option (Value → Sem Unit)} {Qf : Value → Shared → Prop} {ex tg iter : Expr} {ifs : List Expr} {scope : Scope} {own : List (Str × Nat)} {pos pos' : Pos} {wi : TI} {g : TG} {tt : TT} {te : TE} (calm : X.calm = true) (nd : X.N.Nodup) (src : PI X tg iter wi) (blk : BlkOk X.N X.env.scope scope own)
    (pG : ∀ (z : Shared) (G : Hp) (C : Addr) (cl : List (Str × Addr)) (fp : List Addr), PG (X.blk z G scope (compEnvC scope cl C X.env) fp) tg g) (pT : ∀ (z : Shared) (G : Hp) (C : Addr) (cl : List (Str × Addr)) (fp : List Addr), PTs (X.blk z G scope (compEnvC scope cl C X.env) fp) ifs tt)
    (pE : ∀ (z : Shared) (G : Hp) (C : Addr) (cl : List (Str × Addr)) (fp : List Addr), PE (X.blk z G scope (compEnvC scope cl C X.env) fp) ex te) (plain : ∀ x, foldedSetIterable iter X.env x = pure x)
    (inv : Inv X pins σ H s) (wish : tScG kd.O kd.nil kd.more wi g tt te (own.map (·.2)) σ H Q)
    (post : ∀ D C z m G, Inv X pins σ G z → Q (.ref D) G → z.heap.Ns C m → FpOk X pins G C → compPost (model X.prog X.w) X.A X.xe use Qf (.ref D) C (.ok .next) z) :
    wpAny (model X.prog X.w) X.A (comprehension (.SetComp ex [⟨tg, iter, ifs, 0⟩] scope pos) scope X.env pos' (newSet (.type "set")) false (eval iter X.env) use) Qf X.xe s := by
  have cells : ∀ y ∈ scope.names, y.2 = .free → ∃ c, X.env.cells.lookup y.1 = some c := fun y hy e => (blk.free y hy e).elim (fun k => inv.ok.has _ (.inl k)) fun k => inv.ok.has _ (.inr k)
  refine wpAny_comprehension_free (use := use) rfl plain (closure_ok cells) blk.kind (fun y hy e => by rw [blk.uniq y hy, e]) ?_
  refine thn (src.run pins s σ H _ inv wish) fun _ sA hA => thn hA fun _ sB hB => ?_
  obtain ⟨it, fp, at_, walk, HB, rfl, invB, T, stB, fpB, told⟩ := hB
  refine PpSet.newSet_ok (newEnv_comp ?_)
  have free : HB sB.heap.objs.size = none := invB.hok.fresh (Nat.le_refl _)
  obtain ⟨W, ⟨m0, w0⟩, turn⟩ := told sB.heap.objs.size free
  have below : ∀ b ∈ fp, b < sB.heap.objs.size := fun b hb => let ⟨_, e, _⟩ := T.obj _ _ stB b hb; Heap.lt_size e
  generalize hD : sB.heap.objs.size = D at *
  generalize hC : ({ sB with heap := sB.heap.push { cls := .type "set", dict := none, data := .set #[] 0 (.fresh 0 0 (!X.w.params.followText "set-order")) } } : Shared) = sC
  have heapC : sC.heap = sB.heap.push { cls := .type "set", dict := none, data := .set #[] 0 (.fresh 0 0 (!X.w.params.followText "set-order")) } := by rw [← hC]
  have invC : Inv X pins σ (upd HB D (kd.O D kd.nil)) sC := by
    subst hC
    refine invB.laid (t' := sB.toks) (fun b o e => Heap.get?_push_of_some _ e) (Nat.le_of_eq hD) ?_
    subst hD
    exact kd.laid _ _
  have oldC : ∀ b o, sB.heap.get? b = some o → sC.heap.get? b = some o := fun b o e => by rw [heapC]; exact Heap.get?_push_of_some _ e
  have fpC : ∀ b ∈ fp, FpOk X pins (upd HB D (kd.O D kd.nil)) b ∧ b < sC.heap.objs.size := fun b hb => by
    have lt := below b hb
    have l2 : b < sC.heap.objs.size := by
      rw [heapC, Heap.size_push, hD]
      exact Nat.lt_succ_of_lt lt
    exact ⟨⟨by rw [upd_ne (Nat.ne_of_lt lt)]; exact (fpB b hb).1, (fpB b hb).2⟩, l2⟩
  have invD := block_start invC blk nd fpC
  generalize hcl : cellsFrom (sC.heap.objs.size + 1) scope.names (cloFrom X.env.cells scope.names []) = cl at *
  show codeAny _ _ (.compStart (.SetComp ex [⟨tg, iter, ifs, 0⟩] scope pos) 0 (.ref it) (.ref D) (compEnvC scope cl sC.heap.objs.size X.env)) (compPost (model X.prog X.w) X.A X.xe use Qf (.ref D) sC.heap.objs.size) { sC with heap := pushCells (sC.heap.push { cls := .type "dict", data := .dict #[] }) scope.names }
  have loc : (compEnvC scope cl sC.heap.objs.size X.env).locals = sC.heap.objs.size := rfl
  have qG := pG sC (upd HB D (kd.O D kd.nil)) sC.heap.objs.size cl fp
  have qT := pT sC (upd HB D (kd.O D kd.nil)) sC.heap.objs.size cl fp
  have qE := pE sC (upd HB D (kd.O D kd.nil)) sC.heap.objs.size cl fp
  have noneC : ∀ b ∈ fp, (upd HB D (kd.O D kd.nil)) b = none := fun b hb => (fpC b hb).1.1
  generalize hE : compEnvC scope cl sC.heap.objs.size X.env = ce at invD qG qT qE loc ⊢
  generalize hG : upd HB D (kd.O D kd.nil) = HC at invC invD qG qT qE w0 noneC fpC
  generalize hZ : ({ sC with heap := pushCells (sC.heap.push { cls := .type "dict", data := .dict #[] }) scope.names } : Shared) = sD at invD ⊢
  have stD : at_ 0 sD.heap := T.keep _ _ _ stB fun b _ o e => by rw [← hZ]; exact pushCells_keeps _ _ _ _ (Heap.get?_push_of_some _ (oldC b o e))
  have calmly : ∀ {τ : L2.St} {G : Hp} {z : Shared}, Inv (X.blk sC HC scope ce fp) [] τ G z → (∀ b ∈ fp, G b = none) → ∀ b ∈ fp, FpOk (X.blk sC HC scope ce fp) [] G b := fun {τ G z} i n b hb =>
    ⟨n b hb, (i.ok.exf b hb).1, i.ok.exfs b hb, .inl hb, fun x c e => (i.ok.exf b hb).2 x c e, fun p hp => absurd (show p ∈ ([] : List (Addr × Obj)) ++ [] from hp) (by simp)⟩
  refine (fun loop => PpSet.codeAny_compStart_set loop (T.self X.A 0 _ _ _ stD loop)) ?_
  refine PpSet.compLoopS_any (fun n z => ∃ i G, Inv (X.blk sC HC scope ce fp) [] (wipe σ (own.map (·.2))) G z ∧ at_ i z.heap ∧ (∀ b ∈ fp, G b = none) ∧ W i n G) ?_ m0 ⟨0, HC, invD, stD, noneC, w0⟩
  rintro n z5 ⟨i, G5, inv5, st5, n5, w5⟩
  rcases turn i n G5 w5 with ⟨stop, fin⟩ | ⟨go, Nx, less, step⟩
  · refine thnF (T.done (X.blk sC HC scope ce fp) rfl rfl rfl calm i [] z5 _ G5 (fun _ _ => False) inv5 (calmly inv5 n5) st5 stop) ?_
    rintro r z6 ⟨rfl, inv6⟩
    have back : Inv X pins σ G5 z6 := invC.call' (ch := fp) inv6.os inv6.base inv6.hok inv6.bare fun b hb => ⟨(fpC b hb).1.2.2.2.1, (fpC b hb).1.2.1, (fpC b hb).1.2.2.2.2.1, (fpC b hb).1.2.2.2.2.2⟩
    have nL : G5 sC.heap.objs.size = none := by
      rw [← loc]
      exact inv6.free
    obtain ⟨m, names, _⟩ := inv6.loc
    have names' : z6.heap.Ns sC.heap.objs.size m := by
      rw [← loc]
      exact names
    exact post D sC.heap.objs.size z6 m G5 back fin names' (invC.fpOk (Nat.le_refl _) nL)
  · refine thnF (T.item (X.blk sC HC scope ce fp) rfl rfl rfl calm i [] z5 _ G5 (fun _ _ => False) inv5 (calmly inv5 n5) st5 go) ?_
    rintro r z6 ⟨u, rfl, h6⟩
    refine thnF h6 ?_
    rintro _ z7 ⟨x, G7, inv7, r7, y7, st7, n7⟩
    refine thnF (qG.run _ z7 _ G7 x u _ (inv7.pinned (calmly inv7 n7) (T.obj _ _ st7)) r7 (step x G7 y7)) ?_
    rintro _ z8 ⟨σ8, G8, inv8, same8, q8⟩
    refine thnF (qT.run _ z8 σ8 G8 _ inv8 q8) ?_
    rintro yes z9 ⟨G9, inv9, q9⟩
    have next : ∀ {z : Shared} {G : Hp}, Inv (X.blk sC HC scope ce fp) ([] ++ pinsAt fp z7.heap) σ8 G z → Nx G → ∃ m, m < n ∧ ∃ i G, Inv (X.blk sC HC scope ce fp) [] (wipe σ (own.map (·.2))) G z ∧ at_ i z.heap ∧ (∀ b ∈ fp, G b = none) ∧ W i m G := fun {z G} i' nx => by
      obtain ⟨m', lt, w'⟩ := less G nx
      have pinned : ∀ b ∈ fp, ∀ o, z7.heap.get? b = some o → z.heap.get? b = some o ∧ G b = none := fun b hb o e =>
        let p := i'.pin (b, o) (List.mem_append_right _ (List.mem_append_right _ (mem_pinsAt hb e)))
        ⟨p.1, p.2.1⟩
      refine ⟨m', lt, i + 1, G, (i'.unpinned (pins := [])).weak (by rw [← same8, wipe_length]) (fun j v e => ?_), T.keep _ _ _ st7 fun b hb o e => (pinned b hb o e).1, fun b hb => ?_, w'⟩
      · rw [← same8] at e
        exact (wipe_some e).1
      · obtain ⟨o, e, _⟩ := T.obj _ _ st7 b hb
        exact (pinned b hb o e).2
    cases yes with
    | false =>
      simp only [Bool.false_eq_true, if_false] at q9 ⊢
      exact next inv9 q9
    | true =>
      simp only [if_true] at q9 ⊢
      refine thnF (qE.run _ z9 σ8 G9 _ inv9 q9) ?_
      rintro eu z10 ⟨ye, G10, inv10, r10, x0, x1, hD10, mo, nx⟩
      exact kd.add (X.blk sC HC scope ce fp) rfl rfl rfl rfl rfl inv10 hD10 r10 mo fun z12 inv12 => next inv12 nx
theorem pe_scG (kd : SetKd X α) {ex tg iter : Expr} {ifs : List Expr} {scope : Scope} {own : List (Str × Nat)} {pos : Pos} {wi : TI} {g : TG} {tt : TT} {te : TE} (calm : X.calm = true) (nd : X.N.Nodup) (src : PI X tg iter wi) (blk : BlkOk X.N X.env.scope scope own)
    (pG : ∀ (z : Shared) (G : Hp) (C : Addr) (cl : List (Str × Addr)) (fp : List Addr), PG (X.blk z G scope (compEnvC scope cl C X.env) fp) tg g) (pT : ∀ (z : Shared) (G : Hp) (C : Addr) (cl : List (Str × Addr)) (fp : List Addr), PTs (X.blk z G scope (compEnvC scope cl C X.env) fp) ifs tt)
    (pE : ∀ (z : Shared) (G : Hp) (C : Addr) (cl : List (Str × Addr)) (fp : List Addr), PE (X.blk z G scope (compEnvC scope cl C X.env) fp) ex te) (plain : ∀ x, foldedSetIterable iter X.env x = pure x := by intro _; rfl) :
    PE X (.SetComp ex [⟨tg, iter, ifs, 0⟩] scope pos) (tScG kd.O kd.nil kd.more wi g tt te (own.map (·.2))) := by
  constructor
  intro pins s σ H Q inv wish
  rw [PpSet.eval_SetComp]
  refine scG_core kd calm nd src blk pG pT pE plain inv wish ?_
  intro D C z m G back fin names ⟨f0, f1, f2, f3, f4, f5⟩
  exact ⟨m, names, fun h'' sb => ⟨.ref D, G, back.turned (t' := z.toks) (fun b o hb e => (sb.2 b hb).trans e) f0 f1 f3 f4 f5, rfl, fin⟩⟩
theorem pe_scW (kd : SetKd X α) {O : Addr → α → HO} {nil : α} {more : Hp → α → V → α → Prop} (eO : kd.O = O) (en : kd.nil = nil) (em : kd.more = more) {ex tg iter : Expr} {ifs : List Expr} {scope : Scope} {own : List (Str × Nat)} {pos : Pos} {wi : TI} {g : TG} {tt : TT} {te : TE} (calm : X.calm = true) (nd : X.N.Nodup) (src : PI X tg iter wi) (blk : BlkOk X.N X.env.scope scope own)
    (pG : ∀ (z : Shared) (G : Hp) (C : Addr) (cl : List (Str × Addr)) (fp : List Addr), PG (X.blk z G scope (compEnvC scope cl C X.env) fp) tg g) (pT : ∀ (z : Shared) (G : Hp) (C : Addr) (cl : List (Str × Addr)) (fp : List Addr), PTs (X.blk z G scope (compEnvC scope cl C X.env) fp) ifs tt)
    (pE : ∀ (z : Shared) (G : Hp) (C : Addr) (cl : List (Str × Addr)) (fp : List Addr), PE (X.blk z G scope (compEnvC scope cl C X.env) fp) ex te) (plain : ∀ x, foldedSetIterable iter X.env x = pure x := by intro _; rfl) :
    PE X (.SetComp ex [⟨tg, iter, ifs, 0⟩] scope pos) (tScG O nil more wi g tt te (own.map (·.2))) := by
  subst eO en em
  exact pe_scG kd calm nd src blk pG pT pE plain
/-- sets of whole numbers: the members told by S, n of them -/
def IntSet (w : World) (a : Addr) (x : (Int → Bool) × Nat) : HO := SetO w a x.1 x.2
def moreI (_ : Hp) (x : (Int → Bool) × Nat) (y : V) (x' : (Int → Bool) × Nat) : Prop := ∃ k : Int, y = .int k ∧ x.2 + 1 < scanBound ∧ x' = (fun j => x.1 j || decide (j = k), if x.1 k = true then x.2 else x.2 + 1)
theorem add_int {Y : Cx} {pins : List (Addr × Obj)} {σ : L2.St} {H : Hp} {s : Shared} {E : Value → Shared → Prop} {D : Addr} {x x' : (Int → Bool) × Nat} {y : V} {u : Value} {Q : Value → Shared → Prop} (J : Inv Y pins σ H s) (hD : H D = some (IntSet Y.w D x)) (r : RelV y u) (mo : moreI H x y x')
    (q : ∀ z, Inv Y pins σ (upd H D (IntSet Y.w D x')) z → Q .none z) : wpAny (model Y.prog Y.w) Y.A (call (.builtin "set.add") [.ref D, u]) Q E s := by
  obtain ⟨k, rfl, room, rfl⟩ := mo
  obtain ⟨tk, rfl⟩ := r
  refine setR_add (setO_get J hD) room fun h' sb made => ?_
  obtain ⟨o, _, _, _, ho, _⟩ := id made
  refine q _ (J.write (e := D) (t' := s.toks + 1) ?_ (.inl rfl) (fun b u hb hu => (sb.2 b hb).trans hu) ⟨o, ho⟩ (setO_new made))
  rw [hD]
  exact True.intro
def kdI (X : Cx) : SetKd X ((Int → Bool) × Nat) where
  O := IntSet X.w
  nil := (fun _ => false, 0)
  more := moreI
  laid := fun _ _ => setO_new (setR_fresh X.w)
  add := fun Y e1 e2 _ _ _ {_ _ _ _ _ _ _ _ _ _ _} J hD r mo q => by
    rw [← e2] at hD q
    exact add_int J hD r mo q
theorem pe_scI {w0 : World} (hw : X.w = w0) {ex tg iter : Expr} {ifs : List Expr} {scope : Scope} {own : List (Str × Nat)} {pos : Pos} {wi : TI} {g : TG} {tt : TT} {te : TE} (calm : X.calm = true) (nd : X.N.Nodup) (src : PI X tg iter wi) (blk : BlkOk X.N X.env.scope scope own)
    (pG : ∀ (z : Shared) (G : Hp) (C : Addr) (cl : List (Str × Addr)) (fp : List Addr), PG (X.blk z G scope (compEnvC scope cl C X.env) fp) tg g) (pT : ∀ (z : Shared) (G : Hp) (C : Addr) (cl : List (Str × Addr)) (fp : List Addr), PTs (X.blk z G scope (compEnvC scope cl C X.env) fp) ifs tt)
    (pE : ∀ (z : Shared) (G : Hp) (C : Addr) (cl : List (Str × Addr)) (fp : List Addr), PE (X.blk z G scope (compEnvC scope cl C X.env) fp) ex te) (plain : ∀ x, foldedSetIterable iter X.env x = pure x := by intro _; rfl) :
    PE X (.SetComp ex [⟨tg, iter, ifs, 0⟩] scope pos) (tScG (IntSet w0) (fun _ => false, 0) moreI wi g tt te (own.map (·.2))) := by
  subst hw
  exact pe_scW (kdI X) rfl rfl rfl calm nd src blk pG pT pE plain
theorem lt_of_le_nd : ∀ {l : List Int}, l.Pairwise (· ≤ ·) → l.Nodup → l.Pairwise (· < ·) := fun {l} h d => lt_of_le_nodup l h d
/-- sorted(found), any number of them -/
theorem sorted_setI {P : Program} {w : World} {A : Around} {E : Value → Shared → Prop} {s : Shared} {a : Addr} {S : Int → Bool} {n : Nat} {Q : Value → Shared → Prop} (R : SetR w s.heap a S n) (calm : A.handled = none)
    (q : ∀ (z : Shared) (p : Addr) (out : List Value) (c : Nat) (ns : List Int), (∀ b o, s.heap.get? b = some o → z.heap.get? b = some o) → z.gens = s.gens → z.os = s.os → s.heap.objs.size ≤ p → z.heap.get? p = some (seqObj "list" out.toArray c) → IntsAre out ns → ns.Pairwise (· < ·) → (∀ k, k ∈ ns ↔ S k = true) → ns.length = n → Q (.ref p) z) :
    wpAny (model P w) A (call (.builtin "sorted") [.ref a]) Q E s := by
  obtain ⟨o, es, ep, tb, at_, exact_, data, good, apart, mem, few, fits, size, rises, order⟩ := R
  refine Calls.call_function_entry kind_sorted plain_sorted entry_sorted (args_sorted1 _) ?_
  unfold Builtin.«sorted»; refine wpAny_bind (m := checkCount "sorted" 1 1 _) (wpAny_pure ?_)
  refine wpAny_bind (collect_set (A := A.in1) calm ⟨o, at_, exact_.1, data⟩ fits few rises order ?_)
  intro z vs keep big gens os perm
  have vl : vs.length = n := by
    rw [perm.length_eq, List.length_map, Array.length_toList]
    exact size
  have small : vs.length ≤ sizeLine := by
    rw [vl, ← size]
    exact fits_of_scanBound few
  have nums : IntsAre vs (vs.map Builtin.Re.reRawOf) := ints_of vs fun v hv => by
    obtain ⟨e, he, rfl⟩ := List.mem_map.mp (perm.mem_iff.mp hv)
    obtain ⟨k, tk, h1, _⟩ := good e he
    exact ⟨k, tk, h1⟩
  have keys : (vs.map Builtin.Re.reRawOf).Perm (es.toList.map keyOf) := by
    have := perm.map Builtin.Re.reRawOf
    rw [List.map_map] at this
    exact this
  refine wpAny_bind (wpAny_newList ?_ small)
  have list : (z.heap.push (seqObj "list" vs.toArray 0)).get? z.heap.objs.size = some (seqObj "list" vs.toArray 0) := Heap.get?_push_size _ rfl
  refine wpAny_bind (wpAny_holding (wpAny_call_entry slot_list_sort ⟨_, list, rfl⟩ entry_list_sort ?_ (args_list_sort _)))
  refine SrtO.list_sort_ord SrtO.swo_int list small (fun two => SrtO.ints_sortable nums two) fun out sorted stable => ⟨_, rfl, ?_⟩
  obtain ⟨i1, i2, i3⟩ := SrtO.ints_out nums sorted stable
  obtain ⟨c, made⟩ := sortedHeap_at (vs := vs) (out := out.toArray) list
  have all : (out.map SrtO.iv).Perm (es.toList.map keyOf) := i2.trans keys
  refine wpAny_pure ⟨_, rfl, q _ z.heap.objs.size out c (out.map SrtO.iv) (fun b u e => ?_) gens os big made i1 (lt_of_le_nd i3 (all.nodup_iff.mpr apart)) (fun k => by rw [all.mem_iff, ← mem k]) ?_⟩
  · have old := keep b u e
    have lt := Heap.lt_size old
    show (sortedHeap (z.heap.push (seqObj "list" vs.toArray 0)) z.heap.objs.size vs out.toArray).get? b = some u
    rw [sortedHeap_old (Nat.ne_of_lt lt) (by rw [size_push']; exact Nat.lt_succ_of_lt lt)]
    exact Heap.get?_push_of_some _ old
  · rw [all.length_eq, List.length_map, Array.length_toList]
    exact size
def rSrtI (w : World) : List V → Hp → VK → Prop := fun vs H Q => ∃ (a : Addr) (x : (Int → Bool) × Nat), vs = [V.ref a] ∧ H a = some (IntSet w a x) ∧
  ∀ (ns : List Int) (p : Addr), ns.Pairwise (· < ·) → (∀ k : Int, k ∈ ns ↔ x.1 k = true) → ns.length = x.2 → H p = none → Q (.ref p) (upd H p (.lst (ns.map V.int)))
theorem cr_srtI (calm : X.calm = true) : CallR X (.builtin "sorted") (rSrtI X.w) := by
  rintro pins s σ H vs us Q J r ⟨a, x, rfl, ha, q⟩
  have R := setO_get J ha
  have few : x.2 ≤ sizeLine := by
    obtain ⟨_, es, _, _, _, _, _, _, _, _, lt, _, n, _⟩ := id R
    rw [← n]
    exact fits_of_scanBound lt
  rw [Vals.ref1 r]
  refine sorted_setI R (J.ok.hd calm) ?_
  intro z p out c ns keep gens os big made nums up mem len
  have free : H p = none := J.hok.fresh big
  have K' : Inv X pins σ (upd H p (.lst (ns.map V.int))) { s with heap := z.heap, gens := z.gens, drawn := z.drawn, toks := z.toks } :=
    J.call (ch := []) (Un.laid keep big free) (J.hok.laid keep big ⟨by rw [List.length_map, len]; exact few, out, c, vals_of_ints nums, made⟩) (by rw [gens]; exact J.bare) (fun _ y => nomatch y)
  have same : z = { s with heap := z.heap, gens := z.gens, drawn := z.drawn, toks := z.toks } := by
    cases z; cases s
    cases os
    rfl
  rw [same]
  exact ⟨.ref p, _, K', rfl, q ns p up mem len free⟩
end
section
variable {α : Type} {K : PySem.W.Frag} {H : Hp} {σ : L2.St} {Q : VK} {O : Addr → α → HO} {nil : α} {more : Hp → α → V → α → Prop}
def SB (O : Addr → α → HO) (nil : α) (more : Hp → α → V → α → Prop) (J : It) (g : TG) (tt : TT) (te : TE) (vs : List Nat) (σ : L2.St) (H : Hp) (Q : VK) : Prop := tScG O nil more (fun _ H R => R J H) g tt te vs σ H Q
theorem w_scG {wi : TI} {g : TG} {tt : TT} {te : TE} {vs : List Nat} (h : wi σ H fun J H1 => SB O nil more J g tt te vs σ H1 Q) : tScG O nil more wi g tt te vs σ H Q := h
theorem sb_list {a : Addr} (xs : List V) {g : TG} {tt : TT} {te : TE} {vs : List Nat} (Pv : Addr → Nat → Hp → Prop) (h0 : ∀ D, H D = none → Pv D 0 (upd H D (O D nil))) (hl : ∀ D, H D = none → ∀ i H1, i ≤ xs.length → Pv D i H1 → SqL K H1 a xs)
    (hs : ∀ D, H D = none → ∀ i x H1, xs[i]? = some x → Pv D i H1 → g x (wipe σ vs) H1 fun σ2 H2 => wipe σ2 vs = wipe σ vs ∧ tt σ2 H2 fun yes H3 =>
      if yes = true then te σ2 H3 fun y H4 => ∃ x x' : α, H4 D = some (O D x) ∧ more H4 x y x' ∧ Pv D (i + 1) (upd H4 D (O D x')) else Pv D (i + 1) H3) (hd : ∀ D, H D = none → ∀ H1, Pv D xs.length H1 → Q (.ref D) H1) : SB O nil more (Itl K a) g tt te vs σ H Q := by
  intro D hD
  refine ⟨fun i m G => m = xs.length - i ∧ i ≤ xs.length ∧ Pv D i G, ⟨_, rfl, Nat.zero_le _, h0 D hD⟩, ?_⟩
  rintro i m G ⟨rfl, le, p⟩
  have seq := hl D hD i G le p
  rcases Nat.lt_or_ge i xs.length with lt | ge
  · refine .inr ⟨⟨xs, xs[i], seq, by simp [lt]⟩, Pv D (i + 1), fun G' p' => ⟨xs.length - (i + 1), by omega, rfl, lt, p'⟩, ?_⟩
    rintro x G' ⟨rfl, is⟩
    exact hs D hD i x _ (is xs seq) p
  · have e : i = xs.length := by omega
    subst e
    exact .inl ⟨⟨xs, seq, Nat.le_refl _⟩, hd D hD G p⟩
end
end Ct

/-! set(xs) of a list or a tuple of whole numbers -/
namespace Ct
open PySem PySem.Spec PyProof.Rows L2
@[reducible] def fresh0 (w : World) : Obj := { cls := .type "set", dict := none, data := .set #[] 0 (.fresh 0 0 (!w.params.followText "set-order")) }
set_option maxHeartbeats 6400000 in
theorem set_of_list {P : Program} {w : World} {A : Around} {E : Value → Shared → Prop} {s : Shared} {l : Addr} {its : Array Value} (ns : List Int) {Q : Value → Shared → Prop} (calm : A.handled = none) (src : s.heap.IsList l its) (nums : IntsAre its.toList ns) (few : ns.length + 1 < scanBound)
    (q : ∀ (h' : Heap) (tk c : Nat), SetR w h' s.heap.objs.size (fun j => decide (j ∈ ns)) c → c ≤ ns.length → (∀ b o, s.heap.get? b = some o → h'.get? b = some o) → Q (.ref s.heap.objs.size) { s with heap := h', toks := tk }) : wpAny (model P w) A (call (.type "set") [.ref l]) Q E s := by
  have many : its.size = ns.length := by
    have := IntsAre.length nums
    rw [Array.length_toList] at this
    exact this
  obtain ⟨_, _, m0⟩ := F.called_set.mro
  have m1 := F.called_set.made; have m2 := F.called_set.sub
  refine wpAny_call (codeAny_of_tree ?_); show wpAny _ _ (callAny (.type "set") _) _ _ _
  refine wpAny_pure ⟨Code.quiet_builtin _ (by decide +kernel), codeAny_builtin F.entry_type_call ?_⟩; rw [Around.under_plain (weight_type_call_type "set" [.ref l] []) rfl]
  have m3 := F.called_set.notType; have m4 := F.called_set.canCreate; have m5 := F.typeCall_set_1 (.ref l)
  repeat (any_goals (first | assumption | wp_step))
  refine codeAny_mono (code_set_led1 (.ref l) (E := E) (Q₁ := fun obj z => obj = .ref s.heap.objs.size ∧ z = { s with heap := s.heap.push (fresh0 w) }) ⟨rfl, rfl⟩) fun r z hr => ?_
  match r, hr with
  | .error e, hr => exact hr
  | .ok (.ret obj), hr =>
    obtain ⟨rfl, rfl⟩ := hr
    have made : (s.heap.push (fresh0 w)).get? s.heap.objs.size = some (fresh0 w) := Heap.get?_push_size _ rfl
    have ty : Shared.TypeIs { s with heap := s.heap.push (fresh0 w) } (.ref s.heap.objs.size) "set" := ⟨_, made, rfl⟩
    have m6 := F.called_set.init.lookup; have m7 := F.called_set.init.bind (.ref s.heap.objs.size)
    repeat (any_goals (first | assumption | wp_step))
    refine codeAny_mono (codeAny_call_builtin (R := wants (fun r y => r = .none ∧ ∃ h' tk c, y = { s with heap := h', toks := tk } ∧ SetR w h' s.heap.objs.size (fun j => decide (j ∈ ns)) c ∧ c ≤ ns.length ∧ ∀ b o, s.heap.get? b = some o → h'.get? b = some o) E) F.called_set.init.plain F.entry_set_init (check_set_init_1 ty ?_)) fun r y hr => ?_
    · obtain ⟨⟨cl, dc, dt, sls⟩, at_, c0, n0, d0⟩ := src
      simp only at c0 d0
      subst c0; subst d0
      have there : (s.heap.push (fresh0 w)).get? l = some { cls := .type "list", dict := dc, data := .seq its n0, slots := sls } := Heap.get?_push_of_some _ at_
      have m8 := F.sub_list_set; have m9 := F.sub_list_frozenset
      have mA : (Value.type "list" == Value.type "dict") = false := by decide
      have lst : (s.heap.push (fresh0 w)).IsList l its := ⟨_, there, rfl, n0, rfl⟩
      unfold Builtin.«set.__init__» noKeywords Builtin.Frozenset.updateFrom; generalize keepIt : pyIter = PI
      wp_walk
      subst keepIt
      refine wpAny_pyIter_list lst (wpAny_bind (wpAny_runValue ?_))
      have lt : l < s.heap.objs.size := Heap.lt_size at_
      have calm3 : A.in1.in1.in1.handled = none := by simp [calm]
      have apart : l ≠ (s.heap.push (fresh0 w)).objs.size := by
        rw [Heap.size_push]
        exact Nat.ne_of_lt (Nat.lt_succ_of_lt lt)
      have out : s.heap.objs.size ∉ [(s.heap.push (fresh0 w)).objs.size, l] := by
        rw [Heap.size_push]
        simp only [List.mem_cons, List.not_mem_nil, or_false, not_or]
        exact ⟨Nat.ne_of_lt (Nat.lt_succ_self _), Nat.ne_of_gt lt⟩
      have vals : ∀ (i : Nat) (v : Value), its[i]? = some v → ∃ k t, ns[i]? = some k ∧ v = .int k t := fun i v hv => by
        have hi : i < ns.length := by
          rw [← many]
          exact (Array.getElem?_eq_some_iff.mp hv).1
        obtain ⟨t, e⟩ := PyProof.Rows.IntsAre.int_at nums i v (by rw [Array.getElem?_toList]; exact hv)
        exact ⟨ns[i], t, List.getElem?_eq_getElem hi, by rw [e, List.getD_eq_getElem?_getD, List.getElem?_eq_getElem hi]; rfl⟩
      refine set_update_ints ((Walks.list calm3 _ l apart its).toS) s.heap.objs.size out ns many few vals (its.size - 0) 0 _ (by omega) (Nat.zero_le _) ⟨⟨_, Heap.get?_push_size _ rfl, rfl, rfl⟩, (lst.push _)⟩ ⟨0, Nat.le_refl 0, setR_new_at (Heap.get?_push_of_some _ made)⟩ ?_
      rintro ⟨h', g2, d', tk', os'⟩ c' mv le sr
      have e1 : g2 = s.gens := mv.gens
      have e2 : d' = s.drawn := mv.drawn
      have e3 : os' = s.os := mv.os
      subst e1 e2 e3
      show wpAny _ _ _ _ _ _
      refine wpAny_pure ?_
      show wpAny _ _ (ret Value.none) _ _ _
      rw [many] at le
      refine wpAny_pure ⟨rfl, h', tk', c', rfl, sr, le, fun b o e => ?_⟩
      have lb : b < s.heap.objs.size := Heap.lt_size e
      refine mv.heap b o ?_ (Heap.get?_push_of_some _ (Heap.get?_push_of_some _ e))
      rw [Heap.size_push]
      simp only [List.mem_cons, List.not_mem_nil, or_false, not_or]
      exact ⟨Nat.ne_of_lt lb, Nat.ne_of_lt (Nat.lt_succ_of_lt lb)⟩
    · match r, hr with
      | .error e, hr => exact hr
      | .ok (.ret u), hr =>
        obtain ⟨rfl, h', tk, c', rfl, sr, le, keep⟩ := hr
        repeat (any_goals (first | assumption | wp_step))
        exact q _ _ _ sr le keep
      | .ok .next, hr => exact hr.elim
      | .ok .brk, hr => exact hr.elim
      | .ok .cont, hr => exact hr.elim
  | .ok .next, hr => exact hr.elim
  | .ok .brk, hr => exact hr.elim
  | .ok .cont, hr => exact hr.elim
section
variable {X : Cx}
def rSetI (K : PySem.W.Frag) (w : World) : List V → Hp → VK → Prop := fun xs H Q => ∃ (l : Addr) (ns : List Int), xs = [V.ref l] ∧ (SqL K H l (ns.map V.int) ∨ SqT K H l (ns.map V.int)) ∧ ns.length ≤ 4000 ∧ ∀ a c, H a = none → c ≤ ns.length → Q (.ref a) (upd H a (IntSet w a (fun j => decide (j ∈ ns), c)))
theorem cr_setI (calm : X.calm = true) : CallR X (.type "set") (rSetI X.K X.w) := by
  rintro pins s σ H xs us Q J r ⟨l, ns, rfl, src, few, q⟩
  rw [Vals.ref1 r]
  have fin : ∀ (h' : Heap) (tk c : Nat), SetR X.w h' s.heap.objs.size (fun j => decide (j ∈ ns)) c → c ≤ ns.length → (∀ b o, s.heap.get? b = some o → h'.get? b = some o) → EP X pins σ Q (.ref s.heap.objs.size) { s with heap := h', toks := tk } := fun h' tk c sr le keep =>
    ⟨.ref _, upd H s.heap.objs.size (IntSet X.w s.heap.objs.size (fun j => decide (j ∈ ns), c)), J.laid (t' := tk) keep (Nat.le_refl _) (setO_new sr), rfl, q _ c (J.hok.fresh (Nat.le_refl _)) le⟩
  have few' : ns.length + 1 < scanBound := by show ns.length + 1 < 4096; omega
  rcases src with src | src
  · obtain ⟨its, rv, lst, _⟩ := J.list src
    exact set_of_list ns (J.ok.hd calm) lst.isList (by simpa using rv.ints) few' fin
  · obtain ⟨its, rv, tup, _⟩ := J.tuple src
    exact call_set_tupI ns (J.ok.hd calm) tup (by simpa using rv.ints) few' fin
end
end Ct

/-! zip of three lists -/
namespace Ct
open PySem PySem.Spec PyProof.Rows L2
def Itz3 (K : PySem.W.Frag) (a b d : Addr) : It where
  go := fun i H => ∃ (xs ys zs : List V) (x y z : V), SqL K H a xs ∧ SqL K H b ys ∧ SqL K H d zs ∧ xs[i]? = some x ∧ ys[i]? = some y ∧ zs[i]? = some z
  yld := fun i H v H' => ∃ T x y z, v = .ref T ∧ H T = none ∧ H' = upd H T (.tup [x, y, z]) ∧ (∀ xs, SqL K H a xs → xs[i]? = some x) ∧ (∀ ys, SqL K H b ys → ys[i]? = some y) ∧ ∀ zs, SqL K H d zs → zs[i]? = some z
  stop := fun i H => ∃ xs ys zs : List V, SqL K H a xs ∧ SqL K H b ys ∧ SqL K H d zs ∧ min (min xs.length ys.length) zs.length = i
abbrev ZSt3 (a b d z TI TO i1 i2 i3 : Addr) (i : Nat) (h : Heap) : Prop :=
  IsZip h z TI TO .none ∧ IsTupOf3 h TI (.ref i1) (.ref i2) (.ref i3) ∧ (∃ a1 a2 a3, IsTupOf3 h TO a1 a2 a3) ∧ h.IsListIter i1 a i ∧ h.IsListIter i2 b i ∧ h.IsListIter i3 d i
theorem turnZ3 {P : Program} {w : World} {K : PySem.W.Frag} {es : List Expr} {kk : Nat} {tp : Pos} {a b d N : Nat} (ha : a < N) (hb : b < N) (hd : d < N) :
    Turn P w K (.Tuple es kk tp) (Itz3 K a b d) [N + 5, N + 3, N + 4, N, N + 1, N + 2] (N + 5) (ZSt3 a b d (N + 5) (N + 3) (N + 4) N (N + 1) (N + 2)) := by
  have sep : ZipSep3 (N + 5) (N + 3) (N + 4) N (N + 1) (N + 2) [N, a] [N + 1, b] [N + 2, d] := zip_sep3 (fun c hc => by rw [List.mem_singleton] at hc; rw [hc]; exact ha) (fun c hc => by rw [List.mem_singleton] at hc; rw [hc]; exact hb) fun c hc => by rw [List.mem_singleton] at hc; rw [hc]; exact hd
  have wrfp : ∀ {c : Nat}, c ∉ [N + 5, N + 3, N + 4, N, N + 1, N + 2] → c ∉ [N + 5, N + 4, N, N + 1, N + 2] := fun {c} hc hm => hc (by
    simp only [List.mem_cons, List.not_mem_nil, or_false] at hm ⊢
    omega)
  refine ⟨List.mem_cons_self, fun i h st c hc => ?_, fun i h h' st k => ?_, ?_, ?_, fun A i s Q E st h => wpAny_pyIter_zip st.1 h⟩
  · obtain ⟨s1, s2, ⟨u, v, y, s3⟩, ⟨o1, g1, _, d1⟩, ⟨o2, g2, _, d2⟩, ⟨o3, g3, _, d3⟩⟩ := st
    simp only [List.mem_cons, List.not_mem_nil, or_false] at hc
    rcases hc with e | e | e | e | e | e <;> subst e
    · exact ⟨_, s1, fun v q => nomatch q⟩
    · exact ⟨_, s2, fun v q => nomatch q⟩
    · exact ⟨_, s3, fun v q => nomatch q⟩
    · exact ⟨o1, g1, fun v q => by rw [d1] at q; cases q⟩
    · exact ⟨o2, g2, fun v q => by rw [d2] at q; cases q⟩
    · exact ⟨o3, g3, fun v q => by rw [d3] at q; cases q⟩
  · obtain ⟨s1, s2, ⟨u, v, y, s3⟩, s4, s5, s6⟩ := st
    exact ⟨k _ (by simp) _ s1, k _ (by simp) _ s2, ⟨u, v, y, k _ (by simp) _ s3⟩, s4.at fun o q => k N (by simp) o q, s5.at fun o q => k (N + 1) (by simp) o q, s6.at fun o q => k (N + 2) (by simp) o q⟩
  · intro X eP ew eK calm i pins s σ H E I hf st hg
    subst eP ew eK
    obtain ⟨xs, ys, zs, x, y, z, lx, ly, lz, gx, gy, gz⟩ := hg
    obtain ⟨us, rx, px, _⟩ := I.list lx
    obtain ⟨vs, ry, py, _⟩ := I.list ly
    obtain ⟨ts, rz, pz, _⟩ := I.list lz
    obtain ⟨s1, s2, s3, s4, s5, s6⟩ := st
    have hh : X.A.in1.handled = none := I.ok.hd calm
    have G := GoesN.zip3 (elts := es) (x1 := kk) (pos := tp) sep (Draws.list (prog := X.prog) (w := X.w) hh N a (Nat.ne_of_lt ha) us.toArray) (Draws.list (prog := X.prog) (w := X.w) hh (N + 1) b (Nat.ne_of_lt (Nat.lt_succ_of_lt hb)) vs.toArray) (Draws.list (prog := X.prog) (w := X.w) hh (N + 2) d (Nat.ne_of_lt (Nat.lt_succ_of_lt (Nat.lt_succ_of_lt hd))) ts.toArray)
    have lu := rx.length; have lv := ry.length; have lt := rz.length
    have ix : i < xs.length := (List.getElem?_eq_some_iff.mp gx).1
    have iy : i < ys.length := (List.getElem?_eq_some_iff.mp gy).1
    have iz : i < zs.length := (List.getElem?_eq_some_iff.mp gz).1
    refine G.goes i s _ E (by rw [List.size_toArray, List.size_toArray, List.size_toArray]; omega) ⟨s1, s2, s3, ⟨s4, px.isList⟩, ⟨s5, py.isList⟩, ⟨s6, pz.isList⟩⟩ fun v h' tk hY st' hk _ => ?_
    obtain ⟨T, u1, u2, u3, rfl, hT, q1, q2, q3, hTu⟩ := hY
    obtain ⟨w1, e1, r1⟩ := rx.get gx
    obtain ⟨w2, e2, r2⟩ := ry.get gy
    obtain ⟨w3, e3, r3⟩ := rz.get gz
    have f1 : w1 = u1 := Option.some.inj (e1.symm.trans (by simpa using q1))
    have f2 : w2 = u2 := Option.some.inj (e2.symm.trans (by simpa using q2))
    have f3 : w3 = u3 := Option.some.inj (e3.symm.trans (by simpa using q3))
    subst f1 f2 f3
    have new : ObjOk X.prog X.w (upd H T (.tup [x, y, z])) h' T (.tup [x, y, z]) := ⟨len2 rfl, [w1, w2, w3], .cons r1 (.cons r2 (.cons r3 .nil)), hTu⟩
    refine ⟨.ref T, _, I.turnedNew (t' := tk) (fun c o hc e => hk c o (wrfp hc) e) hf hT new, rfl, ⟨T, x, y, z, rfl, I.hok.fresh hT, rfl, fun l hl => by rw [I.list_inj hl lx]; exact gx, fun l hl => by rw [I.list_inj hl ly]; exact gy, fun l hl => by rw [I.list_inj hl lz]; exact gz⟩, ⟨st'.1, st'.2.1, st'.2.2.1, st'.2.2.2.1.1, st'.2.2.2.2.1.1, st'.2.2.2.2.2.1⟩, fun c hc => ?_⟩
    obtain ⟨o, g, _⟩ : ∃ o, s.heap.get? c = some o ∧ True := by
      obtain ⟨u, v, t, s3⟩ := s3
      obtain ⟨o1, g1, _⟩ := s4
      obtain ⟨o2, g2, _⟩ := s5
      obtain ⟨o3, g3, _⟩ := s6
      simp only [List.mem_cons, List.not_mem_nil, or_false] at hc
      rcases hc with e | e | e | e | e | e <;> subst e
      · exact ⟨_, s1, trivial⟩
      · exact ⟨_, s2, trivial⟩
      · exact ⟨_, s3, trivial⟩
      · exact ⟨_, g1, trivial⟩
      · exact ⟨_, g2, trivial⟩
      · exact ⟨_, g3, trivial⟩
    rw [upd_ne (Nat.ne_of_lt (Nat.lt_of_lt_of_le (Heap.lt_size g) hT))]
    exact (hf c hc).1
  · intro X eP ew eK calm i pins s σ H E I hf st hg
    subst eP ew eK
    obtain ⟨xs, ys, zs, lx, ly, lz, hm⟩ := hg
    obtain ⟨us, rx, px, _⟩ := I.list lx
    obtain ⟨vs, ry, py, _⟩ := I.list ly
    obtain ⟨ts, rz, pz, _⟩ := I.list lz
    obtain ⟨s1, s2, s3, s4, s5, s6⟩ := st
    have hh : X.A.in1.handled = none := I.ok.hd calm
    have G := GoesN.zip3 (elts := es) (x1 := kk) (pos := tp) sep (Draws.list (prog := X.prog) (w := X.w) hh N a (Nat.ne_of_lt ha) us.toArray) (Draws.list (prog := X.prog) (w := X.w) hh (N + 1) b (Nat.ne_of_lt (Nat.lt_succ_of_lt hb)) vs.toArray) (Draws.list (prog := X.prog) (w := X.w) hh (N + 2) d (Nat.ne_of_lt (Nat.lt_succ_of_lt (Nat.lt_succ_of_lt hd))) ts.toArray)
    have lu := rx.length; have lv := ry.length; have lt := rz.length
    have hn : min (min us.toArray.size vs.toArray.size) ts.toArray.size = i := by rw [List.size_toArray, List.size_toArray, List.size_toArray]; omega
    rw [hn] at G
    exact G.stops s _ E ⟨s1, s2, s3, ⟨s4, px.isList⟩, ⟨s5, py.isList⟩, ⟨s6, pz.isList⟩⟩ fun h' tk hk _ => I.turnedL (t' := tk) (fun c o hc e => hk c o (wrfp hc) e) hf
def iZ3 (K : PySem.W.Frag) (ta : TA) : TI := fun σ H R => ta σ H fun vs H1 => ∃ a b d xs ys zs, vs = [.ref a, .ref b, .ref d] ∧ SqL K H1 a xs ∧ SqL K H1 b ys ∧ SqL K H1 d zs ∧ R (Itz3 K a b d) H1
theorem pi_zip3 {X : Cx} {e e2 e3 : Expr} {ta : TA} {p pos tp : Pos} {es : List Expr} {kk : Nat} (gl : Gl X "zip") (mz : X.mg "zip" = none) (pa : PA X [e, e2, e3] ta)
    (se : starEach [e, e2, e3] X.env = (false, eval e X.env) :: starEach [e2, e3] X.env := by rfl) (bk : (backTo pos (starEach [e2, e3] X.env)).any (·.1) = false := by rfl) : PI X (.Tuple es kk tp) (.Call (.Name "zip" p) [e, e2, e3] [] pos) (iZ3 X.K ta) := by
  refine ⟨fun pins s σ H R I h => Call_ (ld_blt I gl mz boot_zip (callWith_type1 (thn (pa.run pos pins s σ H _ I h) fun us s1 ⟨vs, H1, I1, r1, q1⟩ => ?_) se bk))⟩
  obtain ⟨a, b, d, xs, ys, zs, rfl, lx, ly, lz, q⟩ := q1
  cases r1 with
  | cons ra rr => cases rr with
    | cons rb rs => cases rs with
      | cons rc rn =>
        cases rn
        cases ra
        cases rb
        cases rc
        obtain ⟨us, rx, px, _⟩ := I1.list lx
        obtain ⟨vs, ry, py, _⟩ := I1.list ly
        obtain ⟨ts, rz, pz, _⟩ := I1.list lz
        refine zip_begins3 (begins_list a us.toArray) (begins_list b vs.toArray) (begins_list d ts.toArray) px.isList py.isList pz.isList fun h' z1 z2 z3 g1 g2 g3 _ hk => wpAny_pyIter_zip z1 ?_
        have I2 : Inv X pins σ H1 { s1 with heap := h' } := I1.kept (t' := s1.toks) hk
        refine ⟨_, _, _, _, H1, rfl, I2, turnZ3 px.lt py.lt pz.lt, ⟨z1, z2, ⟨_, _, _, z3⟩, ⟨_, g1, rfl, rfl⟩, ⟨_, g2, rfl, rfl⟩, ⟨_, g3, rfl, rfl⟩⟩, fun c hc => ?_, q⟩
        have hle : s1.heap.objs.size ≤ c := by
          simp only [List.mem_cons, List.not_mem_nil, or_false] at hc
          rcases hc with e | e | e | e | e | e <;> subst e <;> first | exact Nat.le_add_right _ _ | exact Nat.le_refl _
        exact I1.fpOk hle (I1.hok.fresh hle)
section
variable {K : PySem.W.Frag} {H : Hp} {σ : L2.St} {D : Ends} {R : It → Hp → Prop}
def IZ3 (K : PySem.W.Frag) (vs : List V) (H : Hp) (R : It → Hp → Prop) : Prop := iZ3 K (fun _ H Q => Q vs H) [] H R
theorem w_iz3 {ta : TA} (h : ta σ H fun vs H1 => IZ3 K vs H1 R) : iZ3 K ta σ H R := h
theorem w_IZ3 {a b d : Addr} {xs ys zs : List V} (h1 : SqL K H a xs) (h2 : SqL K H b ys) (h3 : SqL K H d zs) (q : R (Itz3 K a b d) H) : IZ3 K [.ref a, .ref b, .ref d] H R := ⟨a, b, d, xs, ys, zs, rfl, h1, h2, h3, q⟩
theorem fb_zip3 {a b d : Addr} (xs ys zs : List V) (hl : xs.length = ys.length) (hl2 : xs.length = zs.length) {g : TG} {tb : TS} (Pv : Nat → L2.St → Hp → Prop) (h0 : Pv 0 σ H) (hq : ∀ i σ H, i ≤ xs.length → Pv i σ H → SqL K H a xs ∧ SqL K H b ys ∧ SqL K H d zs)
    (hs : ∀ i x y z T σ H, xs[i]? = some x → ys[i]? = some y → zs[i]? = some z → Pv i σ H → H T = none → g (.ref T) σ (upd H T (.tup [x, y, z])) fun σ2 H2 => tb { D with nx := Pv (i + 1), ct := Pv (i + 1), bk := D.nx } σ2 H2) (hd : ∀ σ H, Pv xs.length σ H → D.nx σ H) : FB (Itz3 K a b d) g tb D σ H := by
  refine ⟨fun i m σ H => m = xs.length - i ∧ i ≤ xs.length ∧ Pv i σ H, ⟨xs.length, rfl, Nat.zero_le _, h0⟩, ?_⟩
  rintro i m σ H ⟨rfl, hi, p⟩
  obtain ⟨q1, q2, q3⟩ := hq i σ H hi p
  by_cases hlt : i < xs.length
  · refine .inr ⟨⟨xs, ys, zs, _, _, _, q1, q2, q3, List.getElem?_eq_getElem hlt, List.getElem?_eq_getElem (hl ▸ hlt), List.getElem?_eq_getElem (hl2 ▸ hlt)⟩, Pv (i + 1), fun σ' H' p' => ⟨xs.length - (i + 1), by omega, rfl, hlt, p'⟩, fun v H' y => ?_⟩
    obtain ⟨T, x1, x2, x3, rfl, hT, rfl, f1, f2, f3⟩ := y
    exact hs i x1 x2 x3 T σ H (f1 _ q1) (f2 _ q2) (f3 _ q3) p hT
  · exact .inl ⟨⟨xs, ys, zs, q1, q2, q3, by omega⟩, hd σ H (by rw [show xs.length = i by omega]; exact p)⟩
end
end Ct

/-! a <= b <= c < d; enumerate(xs, start=k) -/
namespace Ct
open PySem PySem.Spec PyProof.Rows L2
section
variable {X : Cx}
def tCh3 (r r' r'' : R2) (ta tb tc td : TE) : TE := fun σ H Q => ta σ H fun x H1 => tb σ H1 fun y H2 => r x y H2 fun z H3 => ∃ k, z = .bl k ∧ (if k = true then tc σ H3 fun w H4 => r' y w H4 fun z' H5 => ∃ k', z' = .bl k' ∧ (if k' = true then td σ H5 fun u H6 => r'' w u H6 Q else Q (.bl false) H5) else Q (.bl false) H3)
theorem pe_chain3 {a b c d : Expr} {op op' op'' : CmpOp} {pos : Pos} {ta tb tc td : TE} {r r' r'' : R2} (ho : OpR X (compareOp op) r) (ho' : OpR X (compareOp op') r') (ho'' : OpR X (compareOp op'') r'') (ha : PE X a ta) (hb : PE X b tb) (hc : PE X c tc) (hd : PE X d td)
    (hm : lastMarks [op, op', op''] [b, c, d] = false := by with_unfolding_all rfl) : PE X (.Compare a [op, op', op''] [b, c, d] pos) (tCh3 r r' r'' ta tb tc td) := by
  constructor
  intro pins s σ H Q I h
  refine Compare_chain (thn (ha.run pins s σ H _ I h) ?_) hm
  rintro v s1 ⟨x, H1, I1, r1, q1⟩
  refine chain_link (thn (hb.run pins s1 σ H1 _ I1 q1) ?_)
  rintro u s2 ⟨y, H2, I2, r2, q2⟩
  refine thn (ho pins s2 σ H2 x y v u _ I2 r1 r2 q2) ?_
  rintro _ s3 ⟨_, H3, I3, r3, k, rfl, q3⟩
  cases r3
  refine wpAny_truthy_bool ?_
  cases k with
  | false => exact ite_ff ⟨.bl false, H3, I3, rfl, q3⟩
  | true =>
    refine ite_tt (chain_link (thn (hc.run pins s3 σ H3 _ I3 q3) ?_))
    rintro u' s4 ⟨y', H4, I4, r4, q4⟩
    refine thn (ho' pins s4 σ H4 y y' u u' _ I4 r2 r4 q4) ?_
    rintro _ s5 ⟨_, H5, I5, r5, k', rfl, q5⟩
    cases r5
    refine wpAny_truthy_bool ?_
    cases k' with
    | false => exact ite_ff ⟨.bl false, H5, I5, rfl, q5⟩
    | true =>
      refine ite_tt (chain_last (thn (hd.run pins s5 σ H5 _ I5 q5) ?_))
      rintro w' s6 ⟨z', H6, I6, r6, q6⟩
      exact ho'' pins s6 σ H6 y' z' u' w' Q I6 r4 r6 q6
theorem w_ch3 {r r' r'' : R2} {ta tb tc td : TE} {σ : L2.St} {H : Hp} {Q : VK} (h : ta σ H fun x H1 => tb σ H1 fun y H2 => r x y H2 fun z H3 => ∃ k, z = .bl k ∧ (if k = true then tc σ H3 fun w H4 => r' y w H4 fun z' H5 => ∃ k', z' = .bl k' ∧ (if k' = true then td σ H5 fun u H6 => r'' w u H6 Q else Q (.bl false) H5) else Q (.bl false) H3)) : tCh3 r r' r'' ta tb tc td σ H Q := h
end
/-- a list, its items numbered from k on -/
def ItS (K : PySem.W.Frag) (a : Addr) (k : Int) : It where
  go := fun i H => ∃ (xs : List V) (x : V), SqL K H a xs ∧ xs[i]? = some x
  yld := fun i H v H' => ∃ T x, v = .ref T ∧ H T = none ∧ H' = upd H T (.tup [.int (k + (i : Int)), x]) ∧ ∀ xs, SqL K H a xs → xs[i]? = some x
  stop := fun i H => ∃ xs : List V, SqL K H a xs ∧ xs.length = i
theorem turnS {P : Program} {w : World} {K : PySem.W.Frag} {es : List Expr} {kk : Nat} {tp : Pos} {a N : Nat} {k : Int} (ha : a < N) :
    Turn P w K (.Tuple es kk tp) (ItS K a k) [N + 1, N] (N + 1) (fun i h => (∃ old, IsEnum h (N + 1) N (k + (i : Int)) old) ∧ h.IsListIter N a i) := by
  have nef : N + 1 ∉ [N, a] := by
    simp only [List.mem_cons, List.not_mem_nil, or_false, not_or]
    omega
  refine ⟨List.mem_cons_self, fun i h st c hc => ?_, fun i h h' st keep => ?_, ?_, ?_, fun A i s Q E st h => ?_⟩
  · obtain ⟨⟨old, s1⟩, ⟨o1, g1, _, d1⟩⟩ := st
    simp only [List.mem_cons, List.not_mem_nil, or_false] at hc
    rcases hc with e | e <;> subst e
    · exact ⟨_, s1, fun v q => nomatch q⟩
    · exact ⟨o1, g1, fun v q => by rw [d1] at q; cases q⟩
  · obtain ⟨⟨old, s1⟩, s4⟩ := st
    exact ⟨⟨old, keep _ (by simp) _ s1⟩, s4.at fun o q => keep N (by simp) o q⟩
  · intro X eP ew eK calm i pins s σ H E I hf st hg
    subst eP ew eK
    obtain ⟨xs, x, lx, gx⟩ := hg
    obtain ⟨us, rx, px, _⟩ := I.list lx
    obtain ⟨s1, s4⟩ := st
    have hh : X.A.in1.handled = none := I.ok.hd calm
    have G := GoesN.enumFrom (elts := es) (x1 := kk) (pos := tp) k (Draws.list (prog := X.prog) (w := X.w) hh N a (Nat.ne_of_lt ha) us.toArray) (N + 1) (Nat.succ_ne_self N) nef List.mem_cons_self
    have lu := rx.length
    have ix : i < xs.length := (List.getElem?_eq_some_iff.mp gx).1
    refine G.goes i s _ E (by rw [List.size_toArray]; omega) ⟨s1, ⟨s4, px.isList⟩⟩ fun v h' tk hY st' hk _ => ?_
    obtain ⟨T, t1, u1, rfl, hT, q1, hTu⟩ := hY
    obtain ⟨w1, e1, r1⟩ := rx.get gx
    have f1 : w1 = u1 := Option.some.inj (e1.symm.trans (by simpa using q1))
    subst f1
    have new : ObjOk X.prog X.w (upd H T (.tup [.int (k + (i : Int)), x])) h' T (.tup [.int (k + (i : Int)), x]) := ⟨len2 rfl, [.int (k + (i : Int)) t1, w1], .cons ⟨_, rfl⟩ (.cons r1 .nil), hTu⟩
    refine ⟨.ref T, _, I.turnedNew (t' := tk) (fun c o hc e => hk c o hc e) hf hT new, rfl, ⟨T, x, rfl, I.hok.fresh hT, rfl, fun l hl => by rw [I.list_inj hl lx]; exact gx⟩, ⟨st'.1, st'.2.1⟩, fun c hc => ?_⟩
    obtain ⟨o, g, _⟩ : ∃ o, s.heap.get? c = some o ∧ True := by
      obtain ⟨old, s1⟩ := s1
      obtain ⟨o1, g1, _⟩ := s4
      simp only [List.mem_cons, List.not_mem_nil, or_false] at hc
      rcases hc with e | e <;> subst e
      · exact ⟨_, s1, trivial⟩
      · exact ⟨_, g1, trivial⟩
    rw [upd_ne (Nat.ne_of_lt (Nat.lt_of_lt_of_le (Heap.lt_size g) hT))]
    exact (hf c hc).1
  · intro X eP ew eK calm i pins s σ H E I hf st hg
    subst eP ew eK
    obtain ⟨xs, lx, hm⟩ := hg
    obtain ⟨us, rx, px, _⟩ := I.list lx
    obtain ⟨s1, s4⟩ := st
    have hh : X.A.in1.handled = none := I.ok.hd calm
    have G := GoesN.enumFrom (elts := es) (x1 := kk) (pos := tp) k (Draws.list (prog := X.prog) (w := X.w) hh N a (Nat.ne_of_lt ha) us.toArray) (N + 1) (Nat.succ_ne_self N) nef List.mem_cons_self
    have lu := rx.length
    have hn : us.toArray.size = i := by rw [List.size_toArray]; omega
    rw [hn] at G
    exact G.stops s _ E ⟨s1, ⟨s4, px.isList⟩⟩ fun h' tk hk _ => I.turnedL (t' := tk) (fun c o hc e => hk c o hc e) hf
  · obtain ⟨⟨old, s1⟩, _⟩ := st
    exact wpAny_pyIter_enum s1 h
end Ct
namespace Ct
open PySem PySem.Spec PyProof.Rows L2
theorem callT_kw {M : Model} {A : Around} {E : Value → Shared → Prop} {s : Shared} {env : Env} {pos : Pos} {T : String} {e : Expr} {rest : List Expr} {kws : List Keyword} {Q : Value → Shared → Prop}
    (h : wpAny M A (spliced (backTo pos (starEach (e :: rest) env))) (fun vs z => wpAny M A (evalAll ((backToKw pos (keywordEach kws env)).map (·.2))) (fun kvs y => wpAny M A (call (.type T) vs (((backToKw pos (keywordEach kws env)).filterMap (·.1)).zip kvs)) Q E y) E z) E s)
    (one : backTo pos (starEach (e :: rest) env) = (false, eval e env) :: backTo pos (starEach rest env)) (plain : (backTo pos (starEach (e :: rest) env)).any (·.1) = false) (named : (backToKw pos (keywordEach kws env)).all (·.1.isSome) = true) (none_ : (backToKw pos (keywordEach kws env)).any (·.1.isNone) = false) :
    wpAny M A (callWith pos (.type T) [] (backTo pos (starEach (e :: rest) env)) (backToKw pos (keywordEach kws env))) Q E s := by
  unfold callWith; refine wpAny_bind (wpAny_holding (wpAny_mono (Q := fun a z => wpAny M A (call (.type T) ([] ++ a.pos) a.kw) Q E z) ?_ (fun a z hz => wpAny_bind (wpAny_standAt ?_)) fun _ _ x => x))
  · rw [one] at h ⊢
    exact evalArgs_kwB named h
  · simp only [plain, none_, Bool.or_false]
    refine wpAny_bind (wpAny_pure (wpAny_bind (wpAny_mono hz (fun r y hr => ?_) fun _ _ x => x)))
    exact wpAny_bind (wpAny_holding (wpAny_point (wpAny_pure hr)))
def iEnS (K : PySem.W.Frag) (ta tk : TA) : TI := fun σ H R => ta σ H fun vs H1 => tk σ H1 fun zs H2 => ∃ a xs k, vs = [.ref a] ∧ zs = [.int k] ∧ SqL K H2 a xs ∧ -(2 ^ 63) ≤ k ∧ k < 2 ^ 63 ∧ R (ItS K a k) H2
theorem pi_enumS {X : Cx} {e : Expr} {ta tk : TA} {p pos tp : Pos} {es : List Expr} {kk : Nat} {kws : List Keyword} (gl : Gl X "enumerate") (me : X.mg "enumerate" = none) (pa : PA X [e] ta) (pk : PK X kws tk)
    (one : backTo pos (starEach [e] X.env) = (false, eval e X.env) :: backTo pos (starEach [] X.env) := by rfl) (plain : (backTo pos (starEach [e] X.env)).any (·.1) = false := by rfl) (named : (backToKw pos (keywordEach kws X.env)).all (·.1.isSome) = true := by rfl) (none_ : (backToKw pos (keywordEach kws X.env)).any (·.1.isNone) = false := by rfl)
    (start : (backToKw pos (keywordEach kws X.env)).filterMap (·.1) = [Str.ofString "start"] := by rfl) : PI X (.Tuple es kk tp) (.Call (.Name "enumerate" p) [e] kws pos) (iEnS X.K ta tk) := by
  constructor
  intro pins s σ H R I h
  refine wpAny_Call_Name_kw (ld_blt I gl me boot_enumerate (callT_kw (thn (pa.run pos pins s σ H _ I h) ?_) one plain named none_))
  rintro us s1 ⟨vs, H1, I1, r1, q1⟩
  refine thn (pk.run pos pins s1 σ H1 _ I1 q1) ?_
  rintro kv s2 ⟨zs, H2, I2, r2, a, xs, k, rfl, rfl, lx, k0, k1, q⟩
  rw [start]
  obtain ⟨u, rfl, ru⟩ := vals1 r1
  obtain ⟨v, rfl, rv⟩ := vals1 r2
  cases (show u = Value.ref a from ru)
  obtain ⟨t, rfl⟩ := rv
  obtain ⟨its, rx, px, _⟩ := I2.list lx
  refine enum_begins_start (begins_list a its.toArray) px.isList k0 k1 fun h' he hit _ hk => wpAny_pyIter_enum he ?_
  have I3 : Inv X pins σ H2 { s2 with heap := h' } := I2.kept (t' := s2.toks) hk
  refine ⟨_, [s2.heap.objs.size + 1, s2.heap.objs.size], _, _, H2, rfl, I3, turnS (k := k) px.lt, ⟨⟨.none, by rw [show k + ((0 : Nat) : Int) = k by omega]; exact he⟩, ⟨_, hit, rfl, rfl⟩⟩, fun c hc => ?_, q⟩
  have hle : s2.heap.objs.size ≤ c := by
    simp only [List.mem_cons, List.not_mem_nil, or_false] at hc
    rcases hc with e | e <;> subst e <;> first | exact Nat.le_add_right _ _ | exact Nat.le_refl _
  exact I2.fpOk hle (I2.hok.fresh hle)
theorem walkS {K : PySem.W.Frag} {a : Addr} {k : Int} (xs : List V) : Walk (ItS K a k) xs.length (fun H => SqL K H a xs) (fun i H v H' => ∃ T x, v = .ref T ∧ H T = none ∧ H' = upd H T (.tup [.int (k + (i : Int)), x]) ∧ xs[i]? = some x) where
  goes := fun i H hi h => ⟨xs, xs[i], h, by simp [hi]⟩
  yields := fun i H v H' _ h ⟨T, x, e1, e2, e3, e4⟩ => ⟨T, x, e1, e2, e3, e4 xs h⟩
  stops := fun H h => ⟨xs, h, rfl⟩
section
variable {K : PySem.W.Frag} {H : Hp} {σ : L2.St} {R : It → Hp → Prop}
def IES (K : PySem.W.Frag) (vs zs : List V) (H : Hp) (R : It → Hp → Prop) : Prop := iEnS K (fun _ H Q => Q vs H) (fun _ H Q => Q zs H) [] H R
theorem w_iens {ta tk : TA} (h : ta σ H fun vs H1 => tk σ H1 fun zs H2 => IES K vs zs H2 R) : iEnS K ta tk σ H R := h
theorem w_IES {a : Addr} {xs : List V} {k : Int} (h : SqL K H a xs) (k0 : -(2 ^ 63) ≤ k) (k1 : k < 2 ^ 63) (q : R (ItS K a k) H) : IES K [.ref a] [.int k] H R := ⟨a, xs, k, rfl, rfl, h, k0, k1, q⟩
end
end Ct

/-! the judge of the smallest wheel, of any data -/
namespace Ct
open PySem PySem.Spec PyProof.Rows L2
def plB (x y : PyData) (n : Nat) : Bool := match x, y with
  | .int j, .int k => decide (0 ≤ j) && (decide (j ≤ k) && decide (k < (n : Int)))
  | _, _ => false
def twoN (x y : PyData) (f : Nat → Nat → Bool) : Bool := match x, y with
  | .int j, .int k => f j.toNat k.toNat
  | _, _ => false
theorem plB_inv {x y : PyData} {n : Nat} (h : plB x y n = true) : ∃ j k : Nat, x = .int (j : Int) ∧ y = .int (k : Int) ∧ j ≤ k ∧ k < n := by
  unfold plB at h
  split at h
  · rename_i j k
    simp only [Bool.and_eq_true, decide_eq_true_eq] at h
    exact ⟨j.toNat, k.toNat, by congr 1; omega, by congr 1; omega, by omega, by omega⟩
  · cases h
theorem plB_nat {j k n : Nat} (h1 : j ≤ k) (h2 : k < n) : plB (.int (j : Int)) (.int (k : Int)) n = true := by
  show (decide (0 ≤ (j : Int)) && (decide ((j : Int) ≤ (k : Int)) && decide ((k : Int) < (n : Int)))) = true
  rw [decide_eq_true (by omega), decide_eq_true (by omega), decide_eq_true (by omega)]
  rfl
def barN (ps : List Pass) (t : Int) (j k : Nat) : Bool := match ps[j]?, ps[k]? with
  | some p, some q => decide ((p.2.1 - q.2.1) % t = 0) && unlk p q
  | _, _ => false
def noneN (ps : List Pass) (j k : Nat) : Bool := match ps[j]?, ps[k]? with
  | some p, some q => if j = k then wrongB p else (decide (p.2.1 = q.2.1) && unlk p q)
  | _, _ => false
def isBarB (ps : List Pass) (t : Int) : PyData → Bool
  | .tuple [x, y] => plB x y ps.length && twoN x y (barN ps t)
  | _ => false
def barsF (ps : List Pass) : Nat → List PyData → Bool
  | _, [] => true
  | i, b :: r => isBarB ps ((i + 1 : Nat) : Int) b && barsF ps (i + 1) r
def marksD : PyData → List Int
  | .tuple ds => ds.filterMap fun d => match d with | .int i => some i | _ => none
  | _ => []
def twB (ps : List Pass) (d1 d2 d3 : PyData) : Bool := match d1, d3 with
  | .int t, .list bs => decide (1 ≤ t) && (decide ((bs.length : Int) = t - 1) && (barsF ps 0 bs && (areM d2 t && doesB t (marksD d2) ps)))
  | _, _ => false
def tnB (ps : List Pass) (x y : PyData) : Bool := plB x y ps.length && twoN x y (noneN ps)
def rightB (ps : List Pass) : PyData → Bool
  | .tuple [w, a, b, c] => PyData.eqv w (.str "wheel") && twB ps a b c
  | .tuple [w, a, b] => PyData.eqv w (.str "none") && tnB ps a b
  | _ => false
theorem rises_ints : ∀ {ds : List PyData} {l z : Int}, risesD l z ds = true → ∃ ms : List Int, ds = ms.map PyData.int ∧ ms.Pairwise (· < ·) ∧ ∀ m ∈ ms, l < m ∧ m < z
  | [], _, _, _ => ⟨[], rfl, List.Pairwise.nil, fun _ h => nomatch h⟩
  | d :: ds, l, z, h => by
    cases d with
    | int i =>
      have h : (if i ≤ l ∨ i ≥ z then false else risesD i z ds) = true := h
      by_cases c : i ≤ l ∨ i ≥ z
      · rw [if_pos c] at h
        cases h
      · rw [if_neg c] at h
        obtain ⟨ms, e, up, b⟩ := rises_ints h
        refine ⟨i :: ms, by rw [e]; rfl, List.pairwise_cons.mpr ⟨fun m hm => (b m hm).1, up⟩, fun m hm => ?_⟩
        rcases List.mem_cons.mp hm with e | hm
        · omega
        · have := b m hm
          omega
    | none => cases h
    | bool _ => cases h
    | str _ => cases h
    | list _ => cases h
    | tuple _ => cases h
    | dict _ => cases h
theorem areM_inv {d : PyData} {z : Int} (h : areM d z = true) : ∃ ms : List Int, d = tupD ms ∧ Rise z ms ∧ marksD d = ms := by
  unfold areM at h
  split at h
  · obtain ⟨ms, rfl, up, b⟩ := rises_ints h
    refine ⟨ms, rfl, ⟨up, fun m hm => by have := b m hm; omega⟩, ?_⟩
    show (ms.map PyData.int).filterMap _ = ms
    rw [List.filterMap_map]
    exact List.filterMap_some
  · cases h
end Ct
namespace Ct
open PySem PySem.Spec PyProof.Rows L2
theorem twB_low {ps : List Pass} {t : Int} {d2 d3 : PyData} (h : t < 1) : twB ps (.int t) d2 d3 = false := by
  cases d3 with
  | list bs =>
    show (decide (1 ≤ t) && _) = false
    rw [decide_eq_false (by omega)]
    rfl
  | none => rfl
  | bool _ => rfl
  | int _ => rfl
  | str _ => rfl
  | tuple _ => rfl
  | dict _ => rfl
theorem lay_ins : ∀ {ds : List PyData} {n : Nat}, PyData.canLayAll0 ds = true → PyData.depthAll ds ≤ n → ∀ d ∈ ds, d.canLay0 = true ∧ d.depth ≤ n
  | [], _, _, _, _, h => nomatch h
  | x :: xs, n, h1, h2, d, h => by
    rw [PyData.canLayAll0, Bool.and_eq_true] at h1
    rw [PyData.depthAll] at h2
    rcases List.mem_cons.mp h with e | h
    · subst e
      exact ⟨h1.1, by omega⟩
    · exact lay_ins h1.2 (by omega) d h
end Ct

/-! wheels behind a train: what they show, and the judge of what is told -/
namespace Ct
open PySem PySem.Spec PyProof.Rows L2
theorem shownB_fed (t : Int) (ms : List Int) : ∀ (ss : List (Int × Int)) (o : Int), shownB t ms (o % t) ss = decide (ss.map (·.2) = (fedS [.wheel t ms] [o % t] (ss.map (·.1))).2)
  | [], _ => rfl
  | s :: r, o => by
    have er : Ct.run [.wheel t ms] [o % t] 0 s.1 = ([(pp (.wheel t ms) (o % t) s.1).1], (pp (.wheel t ms) (o % t) s.1).2) := by
      by_cases z : s.1 = 0
      · rw [z, run_zero]
        show ([o % t], (0 : Int)) = ([(o % t + 0) % t], if (if (0 : Int) = 1 then (o % t + 0) % t else o % t) ∈ ms then 0 else 0)
        rw [Int.add_zero, Int.emod_emod]
        congr 1
        by_cases c : (if (0 : Int) = 1 then o % t else o % t) ∈ ms
        · rw [if_pos c]
        · rw [if_neg c]
      · show stp [.wheel t ms] ([o % t], s.1) 0 = _
        rw [stp_at (p := .wheel t ms) (x := o % t) z rfl rfl]
        rfl
    have e1 : (pp (.wheel t ms) (o % t) s.1).1 = (o + s.1) % t := by
      show (o % t + s.1) % t = _
      rw [Int.emod_add_emod]
    rw [shownB, List.map_cons, List.map_cons, fedS, er, e1, shownB_fed t ms r (o + s.1)]
    generalize (pp (.wheel t ms) (o % t) s.1).2 = y
    by_cases a : y = s.2
    · rw [decide_eq_true a, Bool.true_and, a]
      exact decide_eq_decide.mpr ⟨fun z => by rw [z], fun z => (List.cons.inj z).2⟩
    · rw [decide_eq_false a, Bool.false_and]
      exact (decide_eq_false fun z => a (List.cons.inj z).1.symm).symm
theorem passN_snd (cs : List Int) (ss zz : List (Int × Int)) (h : ss.map (·.2) = zz.map (·.2)) : ∀ n, passN cs ss n = passN cs zz n
  | 0 => rfl
  | n + 1 => by
    have e : (ss[n]?).map (·.2) = (zz[n]?).map (·.2) := by rw [← List.getElem?_map, h, List.getElem?_map]
    rw [passN, passN, passN_snd cs ss zz h n]
    congr 1
    cases cs[n]? with
    | none => rfl
    | some c =>
      cases e1 : ss[n]? with
      | none =>
        cases e2 : zz[n]? with
        | none => rfl
        | some z => rw [e1, e2] at e; cases e
      | some s =>
        cases e2 : zz[n]? with
        | none => rw [e1, e2] at e; cases e
        | some z =>
          rw [e1, e2] at e
          have e : s.2 = z.2 := Option.some.inj e
          show [(c, _, s.2)] = [(c, _, z.2)]
          rw [e]
theorem zip_one (cs ys : List Int) (h : cs.length = ys.length) : (cs.zip ys).map (·.1) = cs := List.map_fst_zip (by omega)
theorem zip_two (cs ys : List Int) (h : cs.length = ys.length) : (cs.zip ys).map (·.2) = ys := List.map_snd_zip (by omega)
theorem zip_back : ∀ (ss : List (Int × Int)), (ss.map (·.1)).zip (ss.map (·.2)) = ss
  | [] => rfl
  | s :: r => by
    show (s.1, s.2) :: ((r.map (·.1)).zip (r.map (·.2))) = s :: r
    rw [zip_back r]
theorem passN_zip {cs : List Int} {ss : List (Int × Int)} (h : cs.length = ss.length) : passN cs ss ss.length = passF 0 (cs.zip (ss.map (·.2))) := by
  have l : cs.length = (ss.map (·.2)).length := by rw [List.length_map]; exact h
  rw [← passN_F, zip_one cs _ l, passN_snd cs ss (cs.zip (ss.map (·.2))) (zip_two cs _ l).symm]
  congr 1
  rw [List.length_zip, List.length_map]
  omega
/-- a wheel does what is shown, when it shows so -/
theorem does_fed {cs : List Int} {ss : List (Int × Int)} (h : cs.length = ss.length) (t : Int) (ms : List Int) : doesB t ms (passN cs ss ss.length) = decide (ss.map (·.2) = (fedS [.wheel t ms] [0] cs).2) := by
  have l : cs.length = (ss.map (·.2)).length := by rw [List.length_map]; exact h
  have e := shownB_fed t ms (cs.zip (ss.map (·.2))) 0
  rw [Int.zero_emod, zip_one cs _ l, zip_two cs _ l] at e
  rw [passN_zip h, ← shownB_does, Int.zero_emod, e]
theorem fed_behind {ps : List Part} {xs : List Int} (ws : List Int) (hx : xs.length = ps.length) (t : Int) (ms : List Int) : (fedS (ps ++ [.wheel t ms]) (xs ++ [0]) ws).2 = (fedS [.wheel t ms] [0] (fedS ps xs ws).2).2 := by
  rw [fed_app hx rfl]
/-- the same wheel twice round -/
theorem mem_twice {t : Int} {ms : List Int} (t1 : 1 ≤ t) (hr : Rise t ms) (x : Int) : x % (2 * t) ∈ ms ++ ms.map (t + ·) ↔ x % t ∈ ms := by
  have e : x % (2 * t) % t = x % t := Int.emod_emod_of_dvd x ⟨2, by omega⟩
  have r0 := Int.emod_nonneg x (b := 2 * t) (by omega)
  have r1 := Int.emod_lt_of_pos x (b := 2 * t) (by omega)
  generalize x % (2 * t) = r at *
  rw [List.mem_append, List.mem_map]
  by_cases c : r < t
  · rw [Int.emod_eq_of_lt r0 c] at e
    rw [← e]
    constructor
    · rintro (h | ⟨m, hm, h⟩)
      · exact h
      · have := hr.2 m hm
        omega
    · exact .inl
  · have e2 : r % t = r - t := by
      rw [← Int.sub_emod_right, Int.emod_eq_of_lt (by omega) (by omega)]
    rw [← e, e2]
    constructor
    · rintro (h | ⟨m, hm, h⟩)
      · have := hr.2 r h
        omega
      · rw [← h, show t + m - t = m by omega]
        exact hm
    · exact fun h => .inr ⟨r - t, h, by omega⟩
theorem does_twice {t : Int} {ms : List Int} (t1 : 1 ≤ t) (hr : Rise t ms) (ps : List Pass) : doesB (2 * t) (ms ++ ms.map (t + ·)) ps = doesB t ms ps := by
  unfold doesB
  congr 1
  funext p
  refine decide_eq_decide.mpr ?_
  by_cases c : p.2.1 % t ∈ ms
  · rw [if_pos c, if_pos ((mem_twice t1 hr _).mpr c)]
  · rw [if_neg c, if_neg (fun z => c ((mem_twice t1 hr _).mp z))]
theorem rise_twice {t : Int} {ms : List Int} (t1 : 1 ≤ t) (hr : Rise t ms) : Rise (2 * t) (ms ++ ms.map (t + ·)) := by
  refine ⟨List.pairwise_append.mpr ⟨hr.1, List.pairwise_map.mpr (hr.1.imp fun {a b} h => by omega), fun x hx y hy => ?_⟩, fun m hm => ?_⟩
  · obtain ⟨m, hm, rfl⟩ := List.mem_map.mp hy
    have := hr.2 x hx
    have := hr.2 m hm
    omega
  · rcases List.mem_append.mp hm with h | h
    · have := hr.2 m h
      omega
    · obtain ⟨k, hk, rfl⟩ := List.mem_map.mp h
      have := hr.2 k hk
      omega
theorem rises_ok : ∀ {ms : List Int} {l z : Int}, ms.Pairwise (· < ·) → (∀ m ∈ ms, l < m ∧ m < z) → risesD l z (ms.map PyData.int) = true
  | [], _, _, _, _ => rfl
  | m :: r, l, z, p, h => by
    obtain ⟨p1, p2⟩ := List.pairwise_cons.mp p
    have hm := h m List.mem_cons_self
    show (if m ≤ l ∨ m ≥ z then false else risesD m z (r.map PyData.int)) = true
    rw [if_neg (by omega)]
    exact rises_ok p2 fun k hk => ⟨p1 k hk, (h k (List.mem_cons_of_mem _ hk)).2⟩
theorem areM_ok {z : Int} {ms : List Int} (h : Rise z ms) : areM (tupD ms) z = true := rises_ok h.1 fun m hm => by
  have := h.2 m hm
  omega
theorem marksD_tup (ms : List Int) : marksD (tupD ms) = ms := by
  show (ms.map PyData.int).filterMap _ = ms
  rw [List.filterMap_map]
  exact List.filterMap_some
theorem bar_ok {ps : List Pass} {t : Int} {b : Nat × Nat} (h : IsCl ps t b.1 b.2) : isBarB ps t (barD b) = true := by
  obtain ⟨jk, ⟨p, q, hp, hq, e, u⟩, _⟩ := h
  show (plB (.int b.1) (.int b.2) ps.length && barN ps t ((b.1 : Int)).toNat ((b.2 : Int)).toNat) = true
  rw [plB_nat (by omega) (List.getElem?_eq_some_iff.mp hq).1, Int.toNat_natCast, Int.toNat_natCast, Bool.true_and]
  unfold barN
  rw [hp, hq]
  show (decide ((p.2.1 - q.2.1) % t = 0) && unlk p q) = true
  rw [u, Bool.and_true, decide_eq_true_eq]
  exact Int.emod_eq_emod_iff_emod_sub_eq_zero.mp e
theorem bars_ok {ps : List Pass} : ∀ {bars : List (Nat × Nat)} {i : Nat}, (∀ (n : Nat) (b : Nat × Nat), bars[n]? = some b → IsCl ps ((i + n + 1 : Nat) : Int) b.1 b.2) → barsF ps i (bars.map barD) = true
  | [], _, _ => rfl
  | b :: r, i, h => by
    rw [List.map_cons, barsF, bar_ok (h 0 b rfl), Bool.true_and]
    exact bars_ok fun n c hc => by
      have := h (n + 1) c hc
      rw [show i + 1 + n + 1 = i + (n + 1) + 1 by omega]
      exact this
theorem right_wheel (ps : List Pass) {t : Nat} {ms : List Int} {bars : List (Nat × Nat)} : rightB ps (wheelD t ms bars) = (decide (1 ≤ (t : Int)) && (decide (((bars.map barD).length : Int) = t - 1) && (barsF ps 0 (bars.map barD) && (areM (tupD ms) t && doesB t ms ps)))) := by
  show (true && (decide (1 ≤ (t : Int)) && (decide (((bars.map barD).length : Int) = t - 1) && (barsF ps 0 (bars.map barD) && (areM (tupD ms) t && doesB t (marksD (tupD ms)) ps))))) = _
  rw [Bool.true_and, marksD_tup]
theorem SmWheel.does {ps : List Pass} {t : Nat} {ms : List Int} {bars : List (Nat × Nat)} (h : SmWheel ps t ms bars) : doesB t ms ps = true := does_marks h.nw (freeB_iff.mp h.free) h.marks
theorem SmWheel.right {ps : List Pass} {t : Nat} {ms : List Int} {bars : List (Nat × Nat)} (h : SmWheel ps t ms bars) : rightB ps (wheelD t ms bars) = true := by
  have t1 := h.t1
  rw [right_wheel, h.does, areM_ok (h.marks.rise (by omega)), bars_ok (i := 0) fun n b hb => by rw [Nat.zero_add]; exact h.bars n b hb, decide_eq_true (by omega), decide_eq_true (by rw [List.length_map, h.len]; omega)]
  rfl
theorem SmNone.right {ps : List Pass} (wk : Walky ps) {j k : Nat} (h : SmNone ps j k) : rightB ps (noneD j k) = true := by
  have lt := h.lt
  show (true && (plB (.int j) (.int k) ps.length && noneN ps ((j : Int)).toNat ((k : Int)).toNat)) = true
  rw [plB_nat lt.2 lt.1, Int.toNat_natCast, Int.toNat_natCast, Bool.true_and, Bool.true_and]
  unfold noneN
  rcases h with ⟨p, hp, w, rfl, _⟩ | ⟨_, jk, ⟨p, q, hp, hq, e, u⟩, _⟩
  · rw [hp]
    show (if j = j then wrongB p else _) = true
    rw [if_pos rfl]
    exact w
  · rw [hp, hq]
    show (if j = k then wrongB p else (decide (p.2.1 = q.2.1) && unlk p q)) = true
    obtain ⟨a, b⟩ := wk j k p q jk hp hq
    rw [if_neg (by omega), u, emod_near e a b, decide_eq_true rfl]
    rfl
theorem wrong_wheel {ps : List Pass} {t : Nat} {ms : List Int} {bars : List (Nat × Nat)} (h : doesB t ms ps = false) : rightB ps (wheelD t ms bars) = false := by
  rw [right_wheel, h]
  simp
theorem set_other {ys : List Int} {k : Nat} {y z : Int} (hy : ys[k]? = some y) (n : z ≠ y) : ys.set k z ≠ ys := fun e => by
  have hk : k < ys.length := (List.getElem?_eq_some_iff.mp hy).1
  have : (ys.set k z)[k]? = some z := by rw [List.getElem?_set, if_pos rfl, if_pos hk]
  rw [e, hy] at this
  exact n (Option.some.inj this).symm
/-- what is told, as data, and the judge's word of it -/
theorem SmT.told {K : PySem.W.Frag} {ps : List Pass} {H : Hp} {g : Addr} (h : SmT K ps H g) (wk : Walky ps) : ∃ d, Dp K H (.ref g) d ∧ rightB ps d = true ∧ d.canLay0 = true ∧ d.depth ≤ 60 ∧ (∀ w x y z, d = .tuple [w, x, y, z] → (marksD y).length ≤ max 1 ps.length) := by
  rcases h with ⟨j, k, h1, h2⟩ | ⟨t, m, b, ms, us, bars, h1, h2, h3, h4, h7⟩
  · refine ⟨noneD j k, .tup (.of h1) (.cons (.str _) (.cons (.int _) (.cons (.int _) .nil))), h2.right wk, (lay_noneD j k).1, Nat.le_trans (lay_noneD j k).2 (by decide), fun w x y z e => ?_⟩
    have := (PyData.tuple.inj e)
    simp at this
  · refine ⟨wheelD t ms bars, .tup (.of h1) (.cons (.str _) (.cons (.int _) (.cons (tupD_dp (.of h2)) (.cons (.lst (.of h3) h4) .nil)))), h7.right, (lay_wheelD t ms bars).1, Nat.le_trans (lay_wheelD t ms bars).2 (by decide), fun w x y z e => ?_⟩
    have e := PyData.tuple.inj e
    simp only [List.cons.injEq, and_true] at e
    rw [← e.2.2.1, marksD_tup]
    exact Nat.le_trans h7.mlen h7.tn
/-- a click lets pushes ahead go on -/
theorem click_fed : ∀ n : Nat, (fedS [.click] [0] (List.replicate n 1)).2 = List.replicate n 1
  | 0 => rfl
  | n + 1 => by
    rw [List.replicate_succ, fedS]
    have er : Ct.run [.click] [0] 0 1 = ([0], 1) := rfl
    rw [er, click_fed n]
theorem w_slA {K : PySem.W.Frag} {H : Hp} {Q : VK} {g : Addr} {a b c d : V} (h : H g = some (.tup [a, b, c, d])) (q : ∀ p H', Same H H' → H' p = some (.tup [a, b, c]) → Q (.ref p) H') : rSlA K (.ref g) none (some 3) H Q := by
  refine ⟨g, [a, b, c, d], rfl, .of h, fun z => ?_, fun _ p np => q p _ (same_upd np) ?_⟩
  · exact absurd z.2 (show ¬ HT.sIx 4 4 (some 3) = 4 by decide)
  · rw [upd_same]
    rfl
theorem SmTp.dr {K : PySem.W.Frag} {Pb : Addr → Prop} {ps : List Pass} {H H' : Hp} {g D : Addr} {c c' : Nat} (h : SmTp K Pb ps H g) (d : Dr D c' H H') (hD : H D = some (DrO D c)) : SmTp K Pb ps H' g := by
  rcases h with ⟨j, k, h1, h2⟩ | ⟨t, m, b, ms, us, bars, h1, h2, nb, h3, h4, h7⟩
  · exact .inl ⟨j, k, d.at hD h1, h2⟩
  · exact .inr ⟨t, m, b, ms, us, bars, d.at hD h1, d.at hD h2, nb, d.at hD h3, d.all hD h4, h7⟩
theorem two_told {K : PySem.W.Frag} {ps : List Pass} (wk : Walky ps) {H H' : Hp} {g g' : Addr} (h : SmT K ps H g) (h' : SmT K ps H' g') : (∃ j k j' k' : Nat, H g = some (.tup [.str "none", .int j, .int k]) ∧ H' g' = some (.tup [.str "none", .int j', .int k'])) ∨
    ∃ (t : Nat) (ms : List Int) (m b m' b' : Addr), H g = some (.tup [.str "wheel", .int t, .ref m, .ref b]) ∧ H m = some (.tup (ms.map V.int)) ∧ H' g' = some (.tup [.str "wheel", .int t, .ref m', .ref b']) ∧ H' m' = some (.tup (ms.map V.int)) := by
  rcases h with ⟨j, k, h1, h2⟩ | ⟨t, m, b, ms, us, bars, h1, h2, h3, h4, h7⟩
  · rcases h' with ⟨j', k', h1', h2'⟩ | ⟨t', m', b', ms', us', bars', h1', h2', h3', h4', h7'⟩
    · exact .inl ⟨j, k, j', k', h1, h1'⟩
    · have e := none_okT wk h2 h7'.t1
      rw [h7'.okT] at e
      cases e
  · rcases h' with ⟨j', k', h1', h2'⟩ | ⟨t', m', b', ms', us', bars', h1', h2', h3', h4', h7'⟩
    · have e := none_okT wk h2' h7.t1
      rw [h7.okT] at e
      cases e
    · have e : t = t' := Nat.le_antisymm (h7.le h7'.t1 h7'.okT) (h7'.le h7.t1 h7.okT)
      subst e
      cases h7.marks.uniq h7'.marks
      exact .inr ⟨t, ms, m, b, m', b', h1, h2, h1', h2'⟩
theorem ones_eq {ts : List (Int × Int)} {n : Nat} (h : ts.map (·.1) = List.replicate n 1) : passN (fedS [.click] [0] (ts.map (·.1))).2 ts ts.length = passF 0 ts := by
  rw [h, click_fed, ← h, passN_F]
theorem set_fst {ss : List (Int × Int)} {k : Nat} {z : Int × Int} {y : Int} (h : ss[k]? = some z) : (ss.set k (z.1, y)).map (·.1) = ss.map (·.1) := by
  rw [List.map_set]
  refine List.ext_getElem? fun i => ?_
  rw [List.getElem?_set]
  by_cases e : k = i
  · subst e
    rw [if_pos rfl]
    have : (ss.map (·.1))[k]? = some z.1 := by rw [List.getElem?_map, h]; rfl
    rw [this, if_pos (List.getElem?_eq_some_iff.mp this).1]
  · rw [if_neg e]
/-- a mark below t -/
def inB (t : Int) : PyData → Bool
  | .int i => decide (0 ≤ i) && decide (i < t)
  | _ => false
theorem ints_in {t : Int} : ∀ {ds : List PyData}, (ds.map (inB t)).all id = true → ∃ ms : List Int, ds = ms.map PyData.int ∧ ∀ m ∈ ms, 0 ≤ m ∧ m < t
  | [], _ => ⟨[], rfl, fun _ h => nomatch h⟩
  | d :: ds, h => by
    rw [List.map_cons, List.all_cons, Bool.and_eq_true] at h
    obtain ⟨ms, e, b⟩ := ints_in h.2
    cases d with
    | int i =>
      have h1 : (decide (0 ≤ i) && decide (i < t)) = true := h.1
      simp only [Bool.and_eq_true, decide_eq_true_eq] at h1
      refine ⟨i :: ms, by rw [e]; rfl, fun m hm => ?_⟩
      rcases List.mem_cons.mp hm with e | hm
      · rw [e]; exact h1
      · exact b m hm
    | none => cases h.1
    | bool _ => cases h.1
    | str _ => cases h.1
    | list _ => cases h.1
    | tuple _ => cases h.1
    | dict _ => cases h.1
theorem ints_inj : ∀ {ms ns : List Int}, ms.map PyData.int = ns.map PyData.int → ms = ns
  | [], [], _ => rfl
  | [], _ :: _, h => nomatch h
  | _ :: _, [], h => nomatch h
  | a :: ms, b :: ns, h => by
    have h := List.cons.inj h
    rw [PyData.int.inj h.1, ints_inj h.2]
theorem eqv_intl (ms ns : List Int) : PyData.eqv (.list (ms.map PyData.int)) (.list (ns.map PyData.int)) = decide (ms = ns) := by
  rw [PyData.eqv]
  exact eqv_ints ms ns
/-- two places of one tooth that are unlike, as data -/
def twoB (ps : List Pass) (t : Int) : PyData → Bool
  | .tuple [.int j, .int k] => decide (0 ≤ j) && (decide (j < k) && (decide (k < (ps.length : Int)) && hitB ps t j.toNat k.toNat))
  | _ => false
theorem twoB_l {ps : List Pass} {t : Int} {x y : PyData} (h : isW x = false) : twoB ps t (.tuple [x, y]) = false := by
  cases x with
  | int i => cases h
  | none => rfl
  | bool _ => rfl
  | str _ => rfl
  | list _ => rfl
  | tuple _ => rfl
  | dict _ => rfl
theorem twoB_r {ps : List Pass} {t : Int} {i : Int} {y : PyData} (h : isW y = false) : twoB ps t (.tuple [.int i, y]) = false := by
  cases y with
  | int i => cases h
  | none => rfl
  | bool _ => rfl
  | str _ => rfl
  | list _ => rfl
  | tuple _ => rfl
  | dict _ => rfl
theorem isW_int {d : PyData} (h : isW d = true) : ∃ i : Int, d = .int i := by
  cases d with
  | int i => exact ⟨i, rfl⟩
  | none => cases h
  | bool _ => cases h
  | str _ => cases h
  | list _ => cases h
  | tuple _ => cases h
  | dict _ => cases h
theorem twoB_1 {ps : List Pass} {t : Int} {x : PyData} : twoB ps t (.tuple [x]) = false := by
  cases x <;> rfl
theorem twoB_3 {ps : List Pass} {t : Int} {x y z : PyData} {r : List PyData} : twoB ps t (.tuple (x :: y :: z :: r)) = false := by
  cases x <;> first | rfl | (cases y <;> rfl)
end Ct

/-! displays of data, read at once: what an expression gives is told by its data alone -/
namespace Ct
open PySem PySem.Spec PyProof.Rows L2
section
variable {K : PySem.W.Frag} {H0 : Hp} {σ : L2.St}
/-- t gives some value of the data d, over any heap that bears what H0 bears -/
def Gv (K : PySem.W.Frag) (H0 : Hp) (σ : L2.St) (t : TE) (d : PyData) : Prop := ∀ (H : Hp) (Q : VK), Same H0 H → (∀ v H', Same H H' → Dp K H' v d → Q v H') → t σ H Q
/-- .. a new list -/
def GvL (K : PySem.W.Frag) (H0 : Hp) (σ : L2.St) (t : TE) (ds : List PyData) : Prop := ∀ (H : Hp) (Q : VK), Same H0 H → (∀ l vs H', Same H H' → H' l = some (.lst vs) → DpAll K H' vs ds → Q (.ref l) H') → t σ H Q
/-- .. a tuple -/
def GvT (K : PySem.W.Frag) (H0 : Hp) (σ : L2.St) (t : TE) (ds : List PyData) : Prop := ∀ (H : Hp) (Q : VK), Same H0 H → (∀ l vs H', Same H H' → SqT K H' l vs → DpAll K H' vs ds → Q (.ref l) H') → t σ H Q
def GvA (K : PySem.W.Frag) (H0 : Hp) (σ : L2.St) (t : TA) (ds : List PyData) : Prop := ∀ (H : Hp) (Q : List V → Hp → Prop), Same H0 H → (∀ vs H', Same H H' → DpAll K H' vs ds → Q vs H') → t σ H Q
/-- .. a number, whichever it is -/
def GvI (H0 : Hp) (σ : L2.St) (t : TE) (R : Int → Prop) : Prop := ∀ (H : Hp) (Q : VK), Same H0 H → (∀ i, R i → Q (.int i) H) → t σ H Q
theorem gv_int {i : Int} : Gv K H0 σ (tC (.int i)) (.int i) := fun H _ _ q => q _ H (Same.refl H) (.int i)
theorem gv_str {x : Str} : Gv K H0 σ (tC (.str x)) (.str x) := fun H _ _ q => q _ H (Same.refl H) (.str x)
theorem gv_bl {b : Bool} : Gv K H0 σ (tC (.bl b)) (.bool b) := fun H _ _ q => q _ H (Same.refl H) (.bl b)
theorem gv_non : Gv K H0 σ (tC .non) .none := fun H _ _ q => q _ H (Same.refl H) .non
theorem gv_var {i : Nat} {v : V} {d : PyData} (e : σ[i]? = some (some v)) (h : Dp K H0 v d) : Gv K H0 σ (tVar i) d := fun H _ s q => ⟨v, e, q v H (Same.refl H) (dp_same s h)⟩
theorem gv_nil : GvA K H0 σ tNil [] := fun H _ _ q => q [] H (Same.refl H) .nil
theorem gv_cons {t : TE} {ts : TA} {d : PyData} {ds : List PyData} (h : Gv K H0 σ t d) (hs : GvA K H0 σ ts ds) : GvA K H0 σ (tCons t ts) (d :: ds) := fun H Q s q =>
  h H _ s fun v H1 s1 hv => hs H1 _ (s.trans s1) fun vs H2 s2 hvs => q _ H2 (s1.trans s2) (.cons (dp_same s2 hv) hvs)
theorem gvT_tup {t : TA} {ds : List PyData} (h : GvA K H0 σ t ds) (l : ds.length ≤ 1000 := by first | decide | exact Nat.le_of_ble_eq_true rfl) : GvT K H0 σ (tTup t) ds := fun H Q s q =>
  h H _ s fun vs H1 s1 hvs => ⟨Nat.le_of_lt (small1000 (by rw [dpAll_len hvs]; exact l)), fun p np => q p vs _ (s1.trans (same_upd np)) (.of upd_same) (dpAll_same (same_upd np) hvs)⟩
theorem gvL_lst {t : TA} {ds : List PyData} (h : GvA K H0 σ t ds) (l : ds.length ≤ 1000 := by first | decide | exact Nat.le_of_ble_eq_true rfl) : GvL K H0 σ (tLst t) ds := fun H Q s q =>
  h H _ s fun vs H1 s1 hvs => ⟨Nat.le_of_lt (small1000 (by rw [dpAll_len hvs]; exact l)), fun p np => q p vs _ (s1.trans (same_upd np)) upd_same (dpAll_same (same_upd np) hvs)⟩
theorem GvT.gv {t : TE} {ds : List PyData} (h : GvT K H0 σ t ds) : Gv K H0 σ t (.tuple ds) := fun H _ s q => h H _ s fun _ _ H1 s1 h1 h2 => q _ H1 s1 (.tup h1 h2)
theorem GvL.gv {t : TE} {ds : List PyData} (h : GvL K H0 σ t ds) : Gv K H0 σ t (.list ds) := fun H _ s q => h H _ s fun _ _ H1 s1 h1 h2 => q _ H1 s1 (.lst (.of h1) h2)
theorem gvL_var {i : Nat} {l : Addr} {vs : List V} {ds : List PyData} (e : σ[i]? = some (some (.ref l))) (h : H0 l = some (.lst vs)) (hd : DpAll K H0 vs ds) : GvL K H0 σ (tVar i) ds := fun H _ s q =>
  ⟨_, e, q l vs H (Same.refl H) (s _ _ h) (dpAll_same s hd)⟩
theorem gvT_var {i : Nat} {l : Addr} {vs : List V} {ds : List PyData} (e : σ[i]? = some (some (.ref l))) (h : SqT K H0 l vs) (hd : DpAll K H0 vs ds) : GvT K H0 σ (tVar i) ds := fun H _ s q =>
  ⟨_, e, q l vs H (Same.refl H) (Same.tup s h) (dpAll_same s hd)⟩
theorem gvL_cat {ta tb : TE} {ds es : List PyData} (ha : GvL K H0 σ ta ds) (hb : GvL K H0 σ tb es) (l : ds.length + es.length ≤ 1000 := by first | decide | exact Nat.le_of_ble_eq_true rfl) : GvL K H0 σ (tOp rCat ta tb) (ds ++ es) := fun H Q s q =>
  ha H _ s fun a xs H1 s1 h1 d1 => hb H1 _ (s.trans s1) fun b ys H2 s2 h2 d2 =>
    ⟨a, b, xs, ys, rfl, rfl, s2 _ _ h1, h2, Nat.le_of_lt (small1000 (by rw [dpAll_len d1, dpAll_len d2]; exact l)), fun p np => q p _ _ ((s1.trans s2).trans (same_upd np)) upd_same (dpAll_same (same_upd np) (dpAll_app (dpAll_same s2 d1) d2))⟩
theorem GvL.use {t : TE} {ds : List PyData} {H : Hp} {Q : VK} (h : GvL K H σ t ds) (q : ∀ l vs H', Same H H' → H' l = some (.lst vs) → DpAll K H' vs ds → Q (.ref l) H') : t σ H Q := h H Q (Same.refl H) q
theorem GvT.use {t : TE} {ds : List PyData} {H : Hp} {Q : VK} (h : GvT K H σ t ds) (q : ∀ l vs H', Same H H' → SqT K H' l vs → DpAll K H' vs ds → Q (.ref l) H') : t σ H Q := h H Q (Same.refl H) q
theorem Gv.use {t : TE} {d : PyData} {H : Hp} {Q : VK} (h : Gv K H σ t d) (q : ∀ v H', Same H H' → Dp K H' v d → Q v H') : t σ H Q := h H Q (Same.refl H) q
theorem gv_rI0 {g : Int → Int → V} {i j k : Int} (e : g i j = .int k) : Gv K H0 σ (tOp (rI0 g) (tC (.int i)) (tC (.int j))) (.int k) := fun H _ _ q => ⟨i, j, rfl, rfl, by rw [e]; exact q _ H (Same.refl H) (.int k)⟩
theorem gv_pow {g : Int → Int → V} {i j k : Int} (c : CPowB i j) (e : g i j = .int k) : Gv K H0 σ (tOp (rI CPowB g) (tC (.int i)) (tC (.int j))) (.int k) := fun H _ _ q => ⟨i, j, rfl, rfl, c, by rw [e]; exact q _ H (Same.refl H) (.int k)⟩
theorem gv_rI0V {H0 : Hp} {i : Nat} {g : Int → Int → V} {v j k : Int} (e : σ[i]? = some (some (.int v))) (z : g v j = .int k) : Gv K H0 σ (tOp (rI0 g) (tVar i) (tC (.int j))) (.int k) := fun H _ _ q => ⟨_, e, ⟨v, j, rfl, rfl, by rw [z]; exact q _ H (Same.refl H) (.int k)⟩⟩
/-- one of a list: some of its data -/
theorem w_some {a : Addr} {xs : List V} {ds : List PyData} {r : Int} {H : Hp} {Q : VK} (h : SqL K H a xs) (hd : DpAll K H xs ds) (r0 : 0 ≤ r) (r1 : r < (ds.length : Int)) (q : ∀ v d, d ∈ ds → Dp K H v d → Q v H) : rIxL K (.ref a) (.int r) H Q := by
  obtain ⟨n, rfl⟩ : ∃ n : Nat, r = n := ⟨r.toNat, by omega⟩
  have hn : n < ds.length := by omega
  obtain ⟨v, hv, hdv⟩ := dpAll_get hd (List.getElem?_eq_getElem hn)
  exact w_ixL h (atI_nat hv) (q v _ (List.getElem_mem hn) hdv)
end
end Ct

/-! a tuple told n times, n from 0 on -/
namespace Ct
open PySem PySem.Spec PyProof.Rows L2
theorem tuple_mul1 (l : Addr) (items : Array Value) (n : Nat) (dd : Option Addr) (sl : Array (Option Value)) (u : Tok) :
    Meets (Builtin.«tuple.__mul__» ⟨[.ref l, .int 1 u], []⟩) (fun _ R s => s.heap.get? l = some { cls := .type "tuple", dict := dd, data := .seq items n, slots := sl } ∧
      R (.ok (.ret (Value.ref l))) s) :=
  .of_wp fun prog w A R s h => by
    obtain ⟨hp, g, d, tk, os⟩ := s
    obtain ⟨hl, h⟩ := h
    have f1 := AutoSeq1.idx_int
    have c1 : (items.isEmpty || ((1 : Int) == 1)) = true := by simp
    wp_walk using wpAny_loadPart' hl
    exact ⟨_, rfl, h⟩
theorem tuple_mul0 (l : Addr) (items : Array Value) (n : Nat) (dd : Option Addr) (sl : Array (Option Value)) (u : Tok) (c1 : items.isEmpty = false) :
    Meets (Builtin.«tuple.__mul__» ⟨[.ref l, .int 0 u], []⟩) (fun _ R s => s.heap.get? l = some { cls := .type "tuple", dict := dd, data := .seq items n, slots := sl } ∧
      R (.ok (.ret (Value.ref s.heap.objs.size))) { s with heap := s.heap.push { cls := Value.type "tuple", data := Data.seq #[] }, toks := s.toks }) :=
  .of_wp fun prog w A R s h => by
    obtain ⟨hp, g, d, tk, os⟩ := s
    obtain ⟨hl, h⟩ := h
    have f1 := AutoSeq1.idx_int
    wp_walk using wpAny_loadPart' hl
    exact ⟨_, rfl, h⟩
def rRepZ (K : PySem.W.Frag) : R2 := fun x y H Q => ∃ l k xs, x = .ref l ∧ y = .int k ∧ SqT K H l xs ∧ xs ≠ [] ∧ 0 ≤ k ∧ k ≤ 1000 ∧ xs.length ≤ 1000 ∧ ∀ p H', Same H H' → SqT K H' p (List.replicate k.toNat xs).flatten → Q (.ref p) H'
variable {X : Cx}
theorem op_repZ : OpR X (binaryOp .Mult) (rRepZ X.K) := by
  intro pins s σ H x y v u Q I rx ry h
  obtain ⟨l, k, xs, rfl, rfl, hT, hne, h1, h2, hz, q⟩ := h
  by_cases c : 2 ≤ k
  · exact op_repT pins s σ H _ _ v u Q I rx ry ⟨l, k, xs, rfl, rfl, hT, hne, c, h2, hz, fun p hp => q p _ (same_upd hp) (.of upd_same)⟩
  cases rx
  obtain ⟨t, rfl⟩ := ry
  obtain ⟨its, r, ⟨⟨cls, dd, data, sl⟩, ho, hc, n, hd⟩, hs⟩ := I.tuple hT
  simp only at hc hd
  subst hc hd
  have hle : its.length = xs.length := r.length.symm
  have hn : its ≠ [] := fun e => hne (by
    rw [e] at hle
    exact List.eq_nil_of_length_eq_zero hle.symm)
  have hi : its.toArray.isEmpty = false := by
    cases its with
    | nil => exact absurd rfl hn
    | cons a b => rfl
  have k01 : k = 0 ∨ k = 1 := by omega
  rcases k01 with rfl | rfl
  · refine wpAny_binaryOp_repeat_ref (T := "tuple") (U := "int") (by decide) ⟨_, ho, rfl⟩ (fun s' => typeIs_int s' 0 t) noFill_tuple_mul F.fills_int_mul F.slot_int_rmul repeat_tuple F.slot_int_index.lookup
      (call_meets F.slot_int_rmul (typeIs_int s 0 t) F.entry_int_rmul (F.args_int_rmul_2 _ _) (int_rmul_tuple 0 t l its.toArray n dd sl)
        ⟨ho, rfl, ⟨_, ho, rfl⟩, call_meets F.slot_tuple_mul ⟨_, ho, rfl⟩ F.entry_tuple_mul (F.args_tuple_mul_2 _ _) (tuple_mul0 l its.toArray n dd sl t hi) ⟨ho, ?_⟩⟩)
    refine ⟨.ref s.heap.objs.size, _, I.laid (t' := s.toks) (o := .tup []) (fun b ob q => Heap.get?_push_of_some _ q) (Nat.le_refl _) ?_, rfl, q _ _ (same_upd (I.hok.fresh (Nat.le_refl _))) (.of upd_same)⟩
    exact ⟨Nat.zero_le _, _, .nil, IsTup.new _ _⟩
  · refine wpAny_binaryOp_repeat_ref (T := "tuple") (U := "int") (by decide) ⟨_, ho, rfl⟩ (fun s' => typeIs_int s' 1 t) noFill_tuple_mul F.fills_int_mul F.slot_int_rmul repeat_tuple F.slot_int_index.lookup
      (call_meets F.slot_int_rmul (typeIs_int s 1 t) F.entry_int_rmul (F.args_int_rmul_2 _ _) (int_rmul_tuple 1 t l its.toArray n dd sl)
        ⟨ho, rfl, ⟨_, ho, rfl⟩, call_meets F.slot_tuple_mul ⟨_, ho, rfl⟩ F.entry_tuple_mul (F.args_tuple_mul_2 _ _) (tuple_mul1 l its.toArray n dd sl t) ⟨ho, ?_⟩⟩)
    exact ⟨.ref l, H, I, rfl, q _ _ (fun _ _ z => z) (by rw [show (List.replicate (Int.toNat 1) xs).flatten = xs by simp]; exact hT)⟩
theorem w_repZ {K : PySem.W.Frag} {H : Hp} {l : Addr} {k : Int} {xs : List V} {Q : VK} (hT : SqT K H l xs) (hne : xs ≠ []) (h0 : 0 ≤ k) (h2 : k ≤ 1000) (hz : xs.length ≤ 1000) (q : ∀ p H', Same H H' → SqT K H' p (List.replicate k.toNat xs).flatten → Q (.ref p) H') : rRepZ K (.ref l) (.int k) H Q :=
  ⟨l, k, xs, rfl, rfl, hT, hne, h0, h2, hz, q⟩
end Ct

/-! t[::-1] of a tuple -/
namespace Ct
open PySem PySem.Spec PyProof.Rows L2
theorem pick_back_to (xs : Array Value) : ∀ k : Nat, k ≤ xs.size → ((List.range k).filterMap fun (k : Nat) => xs[((xs.size : Int) - 1 + (k : Int) * -1).toNat]?) = xs.toList.reverse.take k
  | 0, _ => rfl
  | k + 1, h => by
    have z : ((xs.size : Int) - 1 + (k : Int) * -1).toNat = xs.size - 1 - k := by omega
    have h2 : xs.size - 1 - k < xs.size := by omega
    have h3 : k < xs.toList.length := by rw [Array.length_toList]; omega
    rw [List.range_succ, List.filterMap_append, pick_back_to xs k (by omega), List.take_succ, List.getElem?_reverse h3]
    congr 1
    rw [List.filterMap_cons, List.filterMap_nil, z, Array.length_toList, Array.getElem?_toList, Array.getElem?_eq_getElem h2]
    rfl
theorem pick_back (xs : Array Value) : ((List.range xs.size).filterMap fun (k : Nat) => xs[((xs.size : Int) - 1 + (k : Int) * -1).toNat]?).toArray = xs.toList.reverse.toArray := by
  rw [pick_back_to xs xs.size (Nat.le_refl _), List.take_of_length_le (by simp)]
section
variable {prog : Program} {w : World} {A : Around} {E : Value → Shared → Prop} {s : Shared}
theorem back_applied {sl : Addr} {vl vu vs : Value} {n : Nat} {Q : Int × Int × Nat → Shared → Prop} (hs : s.heap.IsSliceOf sl vl vu vs) (pl : IsPart vl none) (pu : IsPart vu none) (pk : IsPart vs (some (-1)))
    (h : Q ((n : Int) - 1, -1, n) s) : wpAny (model prog w) A (Builtin.Slice.sliceApplied (.ref sl) (pure (n : Int))) Q E s := by
  obtain ⟨o, ho, _, hd⟩ := hs
  unfold Builtin.Slice.sliceApplied Builtin.Slice.sliceFields
  refine wpAny_bind (wpAny_bind (wpAny_field ho hd (x := vl) rfl (wpAny_bind (wpAny_field ho hd (x := vu) rfl (wpAny_bind (wpAny_field ho hd (x := vs) rfl (wpAny_pure ?_)))))))
  refine wpAny_bind (HT.slicePart_ pk ?_)
  show wpAny _ _ (if ((-1 : Int) == 0) = true then _ else _) _ _ s
  rw [if_neg (by decide)]
  refine wpAny_bind (HT.slicePart_ pl (wpAny_bind (HT.slicePart_ pu (wpAny_bind (wpAny_pure ?_)))))
  have e : Builtin.Slice.slicePlaces ((n : Int) - 1) (-1) (-1) = n := by
    unfold Builtin.Slice.slicePlaces
    rw [if_neg (by decide), Int.neg_neg, Int.ediv_one]
    split <;> omega
  show wpAny _ _ (pure ((n : Int) - 1, (-1 : Int), Builtin.Slice.slicePlaces ((n : Int) - 1) (-1) (-1))) _ _ s
  rw [e]
  exact wpAny_pure h
theorem back_item {t sl : Addr} {items : Array Value} {vl vu vs : Value} {Q : Value → Shared → Prop} (ht : IsTup s.heap t items) (hs : s.heap.IsSliceOf sl vl vu vs) (pl : IsPart vl none) (pu : IsPart vu none) (pk : IsPart vs (some (-1)))
    (h : Q (.ref s.heap.objs.size) { s with heap := s.heap.push { cls := .type "tuple", data := .seq items.toList.reverse.toArray } }) (fits : items.size ≤ sizeLine) : wpAny (model prog w) A (getItem (.ref t) (.ref sl)) Q E s := by
  have small : sizeOk (.seq items.toList.reverse.toArray) := by
    show items.toList.reverse.toArray.size ≤ sizeLine
    rw [List.size_toArray, List.length_reverse, Array.length_toList]
    exact fits
  obtain ⟨o, ho, hc, _⟩ := id hs
  have kind : s.TypeIs (.ref sl) "slice" := ⟨o, ho, hc⟩
  unfold getItem
  try with_reducible refine wpAny_holding ?_
  first | refine wpAny_bind (wpAny_pure ?_) | skip
  refine wpAny_bind (wpAny_sequenceKey ht.typeIs (by decide) ?_)
  refine wpAny_bind (wpAny_callSpecial?_slot (name := Str.ofString "__getitem__") ht.typeIs PyProof.Rows.slot_tuple_getitem (wpAny_call_entry PyProof.Rows.slot_tuple_getitem ht.typeIs PyProof.Rows.entry_tuple_getitem ?_ (PyProof.Rows.args_tuple_getitem _ _)))
  show wpAny _ _ (Builtin.Tuple.tupleItemsOf (.ref t) >>= _) _ _ s
  refine wpAny_bind (PyProof.Rows.tupleItemsOf_ ht (wpAny_bind (wpAny_typeOf kind ?_)))
  rw [if_pos (by decide)]
  refine wpAny_bind (back_applied hs pl pu pk ?_)
  show wpAny _ _ (if (((items.size : Int) - 1) == 0 && (-1 : Int) == 1 && items.size == items.size) = true then _ else _) _ _ s
  rw [if_neg (by rw [show ((-1 : Int) == 1) = false from rfl, Bool.and_false, Bool.false_and]; exact Bool.false_ne_true), pick_back]
  first
    | exact wpAny_bind (m := Builtin.Tuple.tupleExact _) (wpAny_newObj_type (wpAny_pure ⟨_, rfl, wpAny_pure h⟩) small)
    | exact wpAny_bind (m := Builtin.Tuple.tupleExact _) (wpAny_newObj_type (wpAny_bind (wpAny_pure (wpAny_pure ⟨_, rfl, wpAny_pure h⟩))) small)
    | exact wpAny_bind (wpAny_bind (m := Builtin.Tuple.tupleExact _) (wpAny_newObj_type (wpAny_pure (wpAny_pure ⟨_, rfl, wpAny_pure h⟩)) small))
    | exact wpAny_bind (wpAny_bind (m := Builtin.Tuple.tupleExact _) (wpAny_newObj_type (wpAny_pure ⟨_, rfl, wpAny_pure h⟩) small))
end
def tRevT (K : PySem.W.Frag) (te : TE) : TE := fun σ H Q => te σ H fun x H1 => ∃ a xs, x = .ref a ∧ SqT K H1 a xs ∧ ∀ p, H1 p = none → Q (.ref p) (upd H1 p (.tup xs.reverse))
section
variable {X : Cx}
theorem pe_revT {e : Expr} {te : TE} {k : Nat} {p1 p2 p3 pos : Pos} (he : PE X e te) : PE X (.Subscript e (.Slice none none (some (.UnaryOp .USub (.Constant (.int 1) k p1) p2)) p3) pos) (tRevT X.K te) := by
  constructor
  intro pins s σ H Q J h
  refine Subscript_ (thn (he.run pins s σ H _ J h) ?_)
  rintro v s1 ⟨x, H1, J1, r1, a, xs, rfl, hx, q⟩
  cases r1
  have step : PO X (some (.UnaryOp .USub (.Constant (.int 1) k p1) p2)) (tPart (tUn (rU fun i => .int (-i)) (tC (.int 1)))) := po_some (pe_un un_neg pe_int)
  refine wpAny_Slice (thn (po_none.run pins s1 σ H1 (fun o H2 => o = none ∧ H2 = H1) J1 ⟨rfl, rfl⟩) ?_)
  rintro vl s2 ⟨_, _, J2, pl, rfl, rfl⟩
  refine thn (po_none.run pins s2 σ _ (fun o H3 => o = none ∧ H3 = _) J2 ⟨rfl, rfl⟩) ?_
  rintro vu s3 ⟨_, _, J3, pu, rfl, rfl⟩
  refine thn (step.run pins s3 σ _ (fun o H4 => o = some (-1) ∧ H4 = _) J3 ⟨1, rfl, -1, rfl, rfl, rfl⟩) ?_
  rintro vs s4 ⟨_, H4, J4, pk, rfl, rfl⟩
  have J5 : Inv X pins σ H4 { s4 with heap := s4.heap.push { cls := .type "slice", data := .fields #[vl, vu, vs] } } := J4.kept (t' := s4.toks) fun b ob z => Heap.get?_push_of_some _ z
  obtain ⟨its, r, ht, hz⟩ := J5.tuple hx
  have len := r.length
  show wpAny (model X.prog X.w) X.A (subscriptTail e (.Slice none none (some (.UnaryOp .USub (.Constant (.int 1) k p1) p2)) p3) (.ref a) (.ref s4.heap.objs.size)) (EP X pins σ Q) X.xe { s4 with heap := s4.heap.push { cls := .type "slice", data := .fields #[vl, vu, vs] } }
  refine tail_any (ops := [.ref a, .ref s4.heap.objs.size]) ht.typeIs (PyProof.Rows.slot_tuple_getitem.lookup) ?_ (by with_unfolding_all rfl)
  refine back_item ht (Heap.IsSliceOf.new _ vl vu vs) pl pu pk ?_ (by rw [List.size_toArray]; omega)
  refine ⟨.ref _, _, J5.laid (t' := s4.toks) (o := .tup xs.reverse) (fun b ob z => Heap.get?_push_of_some _ z) (Nat.le_refl _) ?_, rfl, q _ (J5.hok.fresh (Nat.le_refl _))⟩
  exact ⟨by rw [List.length_reverse]; exact hz, _, r.reverse, ⟨_, Heap.get?_push_size _ rfl, rfl, _, rfl⟩⟩
theorem pe_revTw {K0 : PySem.W.Frag} (hK : X.K = K0) {e : Expr} {te : TE} {k : Nat} {p1 p2 p3 pos : Pos} (he : PE X e te) : PE X (.Subscript e (.Slice none none (some (.UnaryOp .USub (.Constant (.int 1) k p1) p2)) p3) pos) (tRevT K0 te) := by
  subst hK
  exact pe_revT he
end
end Ct

/-! bent things: data that are judged and shown -/
namespace Ct
open PySem PySem.Spec PyProof.Rows L2
/-- numbers of at most sixty figures, n deep, m things in it -/
structure Bn (d : PyData) (n m : Nat) : Prop where
  ok : okI d = true
  lay : d.canLay0 = true
  dep : d.depth ≤ n
  bk : d.bulk ≤ m
structure BnA (ds : List PyData) (n m : Nat) : Prop where
  ok : okIs ds = true
  lay : PyData.canLayAll0 ds = true
  dep : PyData.depthAll ds ≤ n
  bk : PyData.bulkAll ds ≤ m
theorem Bn.mono {d : PyData} {n m n' m' : Nat} (h : Bn d n m) (e : n ≤ n') (e' : m ≤ m') : Bn d n' m' := ⟨h.ok, h.lay, Nat.le_trans h.dep e, Nat.le_trans h.bk e'⟩
theorem BnA.mono {ds : List PyData} {n m n' m' : Nat} (h : BnA ds n m) (e : n ≤ n') (e' : m ≤ m') : BnA ds n' m' := ⟨h.ok, h.lay, Nat.le_trans h.dep e, Nat.le_trans h.bk e'⟩
theorem BnA.nil {n m : Nat} : BnA [] n m := ⟨rfl, rfl, Nat.zero_le _, Nat.zero_le _⟩
theorem BnA.nil0 {n : Nat} : BnA [] n 0 := .nil
theorem BnA.cons {d : PyData} {ds : List PyData} {n m k : Nat} (h : Bn d n m) (g : BnA ds n k) : BnA (d :: ds) n (m + 1 + k) := by
  refine ⟨?_, ?_, ?_, ?_⟩
  · rw [okIs, h.ok, g.ok]; rfl
  · rw [PyData.canLayAll0, h.lay, g.lay]; rfl
  · rw [PyData.depthAll]
    have := h.dep
    have := g.dep
    omega
  · rw [PyData.bulkAll]
    have := h.bk
    have := g.bk
    omega
theorem BnA.head {d : PyData} {ds : List PyData} {n m : Nat} (h : BnA (d :: ds) n m) : Bn d n m := by
  obtain ⟨h1, h2, h3, h4⟩ := h
  rw [okIs, Bool.and_eq_true] at h1
  rw [PyData.canLayAll0, Bool.and_eq_true] at h2
  rw [PyData.depthAll] at h3
  rw [PyData.bulkAll] at h4
  exact ⟨h1.1, h2.1, by omega, by omega⟩
theorem BnA.tail {d : PyData} {ds : List PyData} {n m : Nat} (h : BnA (d :: ds) n m) : BnA ds n m := by
  obtain ⟨h1, h2, h3, h4⟩ := h
  rw [okIs, Bool.and_eq_true] at h1
  rw [PyData.canLayAll0, Bool.and_eq_true] at h2
  rw [PyData.depthAll] at h3
  rw [PyData.bulkAll] at h4
  exact ⟨h1.2, h2.2, by omega, by omega⟩
theorem BnA.mem : ∀ {ds : List PyData} {n m : Nat}, BnA ds n m → ∀ d ∈ ds, Bn d n m
  | [], _, _, _, _, hd => nomatch hd
  | x :: xs, n, m, h, d, hd => by
    rcases List.mem_cons.mp hd with e | hd
    · rw [e]; exact h.head
    · exact h.tail.mem d hd
theorem BnA.len : ∀ {ds : List PyData} {n m : Nat}, BnA ds n m → ds.length ≤ m
  | [], _, _, _ => Nat.zero_le _
  | x :: xs, n, m, h => by
    have b := h.bk
    rw [PyData.bulkAll] at b
    have := (⟨h.tail.ok, h.tail.lay, h.tail.dep, Nat.le_refl _⟩ : BnA xs n (PyData.bulkAll xs)).len
    rw [List.length_cons]
    omega
theorem BnA.app : ∀ {ds es : List PyData} {n m k : Nat}, BnA ds n m → BnA es n k → BnA (ds ++ es) n (m + k)
  | [], es, n, m, k, _, g => g.mono (Nat.le_refl _) (by omega)
  | x :: xs, es, n, m, k, h, g => by
    have b := h.bk
    rw [PyData.bulkAll] at b
    have t : BnA xs n (PyData.bulkAll xs) := ⟨h.tail.ok, h.tail.lay, h.tail.dep, Nat.le_refl _⟩
    have r := t.app g
    have c := BnA.cons (⟨h.head.ok, h.head.lay, h.head.dep, Nat.le_refl _⟩ : Bn x n x.bulk) r
    exact c.mono (Nat.le_refl _) (by omega)
theorem BnA.drop : ∀ {ds : List PyData} {n m : Nat} (i : Nat), BnA ds n m → BnA (ds.drop i) n m
  | ds, _, _, 0, h => h
  | [], _, _, _ + 1, h => h
  | _ :: _, _, _, i + 1, h => h.tail.drop i
theorem BnA.take : ∀ {ds : List PyData} {n m : Nat} (i : Nat), BnA ds n m → BnA (ds.take i) n m
  | _, _, _, 0, _ => .nil
  | [], _, _, _ + 1, h => h
  | x :: xs, n, m, i + 1, h => by
    have b := h.bk
    rw [PyData.bulkAll] at b
    have t := (⟨h.tail.ok, h.tail.lay, h.tail.dep, Nat.le_refl _⟩ : BnA xs n (PyData.bulkAll xs)).take i
    exact (BnA.cons (⟨h.head.ok, h.head.lay, h.head.dep, Nat.le_refl _⟩ : Bn x n x.bulk) t).mono (Nat.le_refl _) (by omega)
theorem BnA.rev : ∀ {ds : List PyData} {n m : Nat}, BnA ds n m → BnA ds.reverse n m
  | [], _, _, h => h
  | x :: xs, n, m, h => by
    have b := h.bk
    rw [PyData.bulkAll] at b
    have t := (⟨h.tail.ok, h.tail.lay, h.tail.dep, Nat.le_refl _⟩ : BnA xs n (PyData.bulkAll xs)).rev
    rw [List.reverse_cons]
    exact (t.app (BnA.cons (⟨h.head.ok, h.head.lay, h.head.dep, Nat.le_refl _⟩ : Bn x n x.bulk) .nil0)).mono (Nat.le_refl _) (by omega)
theorem BnA.tup {ds : List PyData} {n m : Nat} (h : BnA ds n m) : Bn (.tuple ds) (n + 1) m := ⟨h.ok, h.lay, by rw [PyData.depth]; have := h.dep; omega, h.bk⟩
theorem BnA.lst {ds : List PyData} {n m : Nat} (h : BnA ds n m) : Bn (.list ds) (n + 1) m := ⟨h.ok, h.lay, by rw [PyData.depth]; have := h.dep; omega, h.bk⟩
theorem Bn.int {i : Int} {n m : Nat} (h : i.natAbs < 2 ^ 200) : Bn (.int i) n m := ⟨decide_eq_true h, rfl, Nat.zero_le _, Nat.zero_le _⟩
theorem Bn.bl {b : Bool} {n m : Nat} : Bn (.bool b) n m := ⟨rfl, rfl, Nat.zero_le _, Nat.zero_le _⟩
theorem BnA.ints : ∀ {ms : List Int} {n m : Nat}, (∀ x ∈ ms, x.natAbs < 2 ^ 200) → ms.length ≤ m → BnA (ms.map PyData.int) n m
  | [], _, _, _, _ => .nil
  | x :: xs, n, m, h, l => by
    rw [List.length_cons] at l
    have t := BnA.ints (n := n) (m := xs.length) (fun y hy => h y (List.mem_cons_of_mem _ hy)) (Nat.le_refl _)
    exact (BnA.cons (Bn.int (n := n) (m := 0) (h x List.mem_cons_self)) t).mono (Nat.le_refl _) (by omega)
theorem Bn.two {x y : PyData} {n : Nat} (h : Bn x n 0) (g : Bn y n 0) : Bn (.tuple [x, y]) (n + 1) 2 := ((BnA.cons h (BnA.cons g .nil0)).mono (m' := 2) (Nat.le_refl _) (by omega)).tup
theorem BnA.bars : ∀ {bs : List (Nat × Nat)} {m : Nat}, (∀ b ∈ bs, b.1 ≤ 400 ∧ b.2 ≤ 400) → 3 * bs.length ≤ m → BnA (bs.map barD) 1 m
  | [], _, _, _ => .nil
  | b :: r, m, h, l => by
    have hb := h b List.mem_cons_self
    rw [List.length_cons] at l
    have t := BnA.bars (m := 3 * r.length) (fun y hy => h y (List.mem_cons_of_mem _ hy)) (Nat.le_refl _)
    have one : Bn (barD b) 1 2 := Bn.two (n := 0) (Bn.int (by omega)) (Bn.int (by omega))
    exact (BnA.cons one t).mono (Nat.le_refl _) (by omega)
/-- by looking -/
def bnB (n m : Nat) (d : PyData) : Bool := okI d && d.canLay0 && decide (d.depth ≤ n) && decide (d.bulk ≤ m)
theorem bn_by {n m : Nat} {d : PyData} (z : bnB n m d = true) : Bn d n m := by
  rw [bnB, Bool.and_eq_true, Bool.and_eq_true, Bool.and_eq_true] at z
  exact ⟨z.1.1.1, z.1.1.2, of_decide_eq_true z.1.2, of_decide_eq_true z.2⟩
theorem bn_all {n m : Nat} {ds : List PyData} (h : ds.all (bnB n m) = true) : ∀ d ∈ ds, Bn d n m := fun d hd => bn_by (List.all_eq_true.mp h d hd)
theorem marks_few : ∀ ds : List PyData, (ds.filterMap fun d => match d with | .int i => some i | _ => none).length ≤ ds.length := fun ds => List.length_filterMap_le _ ds
theorem Bn.marks {d : PyData} {n m : Nat} (h : Bn d n m) (e : m ≤ 4000) : ∀ w x y z, d = .tuple [w, x, y, z] → (marksD y).length ≤ 4000 := by
  rintro w x y z rfl
  have b := h.bk
  have b : w.bulk + 1 + (x.bulk + 1 + (y.bulk + 1 + (z.bulk + 1 + 0))) ≤ m := b
  have ly : (marksD y).length ≤ y.bulk := by
    cases y with
    | tuple ds =>
      refine Nat.le_trans (marks_few ds) ?_
      have : ∀ es : List PyData, es.length ≤ PyData.bulkAll es := fun es => by
        induction es with
        | nil => exact Nat.zero_le _
        | cons a r ih => rw [PyData.bulkAll, List.length_cons]; omega
      exact this ds
    | none => exact Nat.zero_le _
    | bool _ => exact Nat.zero_le _
    | int _ => exact Nat.zero_le _
    | str _ => exact Nat.zero_le _
    | list _ => exact Nat.zero_le _
    | dict _ => exact Nat.zero_le _
  omega
theorem Bn.shw {d : PyData} {n m : Nat} (h : Bn d n m) (e : n ≤ 40) (e' : m ≤ 5000) : Shw d := ⟨h.ok, ⟨h.lay, Nat.le_trans h.dep e⟩, Nat.le_trans h.bk e'⟩
/-- a wheel within bounds -/
structure MdW (t : Nat) (ms : List Int) (bars : List (Nat × Nat)) : Prop where
  t1 : 1 ≤ t
  t2 : t ≤ 320
  mr : ∀ x ∈ ms, 0 ≤ x ∧ x < t
  ml : ms.length ≤ 320
  bs : ∀ b ∈ bars, b.1 ≤ 320 ∧ b.2 ≤ 320
  bl : bars.length + 1 = t
theorem bn_wheel {t : Nat} {ms : List Int} {bars : List (Nat × Nat)} (h : MdW t ms bars) : Bn (wheelD t ms bars) 3 1400 := by
  have t2 := h.t2
  have bl := h.bl
  have a := BnA.ints (n := 1) (m := 320) (ms := ms) (fun x hx => by have := h.mr x hx; omega) h.ml
  have b := BnA.bars (m := 960) (bs := bars) (fun x hx => by have := h.bs x hx; omega) (by omega)
  have w : Bn (.str "wheel") 2 5 := bn_by (by decide +kernel)
  exact ((BnA.cons w (BnA.cons (Bn.int (i := (t : Int)) (n := 2) (m := 0) (by omega)) (BnA.cons (a.tup.mono (m' := 320) (by decide) (by omega)) (BnA.cons (b.lst) .nil0)))).mono (m' := 1400) (Nat.le_refl _) (by omega)).tup
theorem bn_none {j k : Nat} (hj : j ≤ 400) (hk : k ≤ 400) : Bn (noneD j k) 1 10 := by
  have w : Bn (.str "none") 0 4 := bn_by (by decide +kernel)
  exact ((BnA.cons w (BnA.cons (Bn.int (i := (j : Int)) (n := 0) (m := 0) (by omega)) (BnA.cons (Bn.int (i := (k : Int)) (n := 0) (m := 0) (by omega)) .nil0))).mono (m' := 10) (Nat.le_refl _) (by omega)).tup
/-- a thing that was made: a wheel or none, of which R speaks -/
def MdT (K : PySem.W.Frag) (R : PyData → Prop) (H : Hp) (g : Addr) : Prop :=
  (∃ j k : Nat, H g = some (.tup [.str "none", .int j, .int k]) ∧ j ≤ 320 ∧ k ≤ 320 ∧ R (noneD j k)) ∨
   (∃ (t : Nat) (m b : Addr) (ms : List Int) (us : List V) (bars : List (Nat × Nat)), H g = some (.tup [.str "wheel", .int t, .ref m, .ref b]) ∧ H m = some (.tup (ms.map V.int)) ∧ H b = some (.lst us) ∧ DpAll K H us (bars.map barD) ∧ MdW t ms bars ∧ R (wheelD t ms bars))
theorem MdT.same {K : PySem.W.Frag} {R : PyData → Prop} {H H' : Hp} {g : Addr} (h : MdT K R H g) (s : Same H H') : MdT K R H' g := by
  rcases h with ⟨j, k, h1, h2⟩ | ⟨t, m, b, ms, us, bars, h1, h2, h3, h4, h7⟩
  · exact .inl ⟨j, k, s _ _ h1, h2⟩
  · exact .inr ⟨t, m, b, ms, us, bars, s _ _ h1, s _ _ h2, s _ _ h3, dpAll_same s h4, h7⟩
theorem MdT.dr {K : PySem.W.Frag} {R : PyData → Prop} {H H' : Hp} {g D : Addr} {c c' : Nat} (h : MdT K R H g) (d : Dr D c' H H') (hD : H D = some (DrO D c)) : MdT K R H' g := by
  rcases h with ⟨j, k, h1, h2⟩ | ⟨t, m, b, ms, us, bars, h1, h2, h3, h4, h7⟩
  · exact .inl ⟨j, k, d.at hD h1, h2⟩
  · exact .inr ⟨t, m, b, ms, us, bars, d.at hD h1, d.at hD h2, d.at hD h3, d.all hD h4, h7⟩
theorem MdT.data {K : PySem.W.Frag} {R : PyData → Prop} {H : Hp} {g : Addr} (h : MdT K R H g) : ∃ d, Dp K H (.ref g) d ∧ Bn d 3 1400 ∧ R d := by
  rcases h with ⟨j, k, h1, h2, h3, h4⟩ | ⟨t, m, b, ms, us, bars, h1, h2, h3, h4, h5, h7⟩
  · exact ⟨_, .tup (.of h1) (.cons (.str _) (.cons (.int _) (.cons (.int _) .nil))), (bn_none (by omega) (by omega)).mono (by decide) (by decide), h4⟩
  · exact ⟨_, .tup (.of h1) (.cons (.str _) (.cons (.int _) (.cons (tupD_dp (.of h2)) (.cons (.lst (.of h3) h4) .nil)))), bn_wheel h5, h7⟩
/-- what smallest tells is such a thing -/
theorem SmT.md {K : PySem.W.Frag} {ps : List Pass} (wk : Walky ps) (pl : ps.length ≤ 320) {H : Hp} {g : Addr} (h : SmT K ps H g) : MdT K (fun d => rightB ps d = true) H g := by
  rcases h with ⟨j, k, h1, h2⟩ | ⟨t, m, b, ms, us, bars, h1, h2, h3, h4, h7⟩
  · have := h2.lt
    exact .inl ⟨j, k, h1, by omega, by omega, h2.right wk⟩
  · have t1 := h7.t1
    have tn := h7.tn
    have ml := h7.mlen
    refine .inr ⟨t, m, b, ms, us, bars, h1, h2, h3, h4, ⟨t1, by omega, (h7.marks.rise (by omega)).2, by omega, fun x hx => ?_, by have := h7.len; omega⟩, h7.right⟩
    obtain ⟨i, hi⟩ := List.mem_iff_getElem?.mp hx
    have c := h7.bars i x hi
    have := c.2.1.lt
    have := c.1
    omega
end Ct
/-! sorted of a tuple of whole numbers -/
namespace Ct
open PySem PySem.Spec PyProof.Rows L2
@[reducible] def gatherH (h : Heap) (its : Array Value) : Heap := (h.push { cls := .type "list", data := .seq ([] : List Value).toArray }).update h.objs.size (Obj.mapSeq (· ++ its))
theorem gather_keep {h : Heap} {its : Array Value} {b : Addr} {u : Obj} (e : h.get? b = some u) : (gatherH h its).get? b = some u := (Heap.get?_update_other _ _ (Nat.ne_of_gt (Heap.lt_size e))).trans (Heap.get?_push_of_some _ e)
theorem collect_tup {prog : Program} {w : World} {A : Around} {E : Value → Shared → Prop} {s : Shared} {Q : List Value → Shared → Prop} {a : Addr} {o : Obj} {its : Array Value} {n : Nat} (at_ : s.heap.get? a = some o) (kind : o.cls = .type "tuple") (data : o.data = .seq its n) (fits : its.size ≤ sizeLine)
    (q : Q its.toList { s with heap := gatherH s.heap its }) : wpAny (model prog w) A (collect (.ref a)) Q E s := by
  unfold collect; refine wpAny_bind (wpAny_runValue (codeAny_builtin F.entry_proto_collect ?_)); rw [Around.under_plainId F.plain_proto_collect _]
  show wpAny _ A.in1 (newList [] >>= fun g => again (.builtin "list.__iadd__" ⟨[g, .ref a], []⟩)) _ _ s
  refine wpAny_bind (wpAny_newObj_type (wpAny_pure ⟨plainId_quiet F.plain_list_iadd _, codeAny_builtin F.entry_list_iadd ?_⟩)); rw [Around.under_plainId F.plain_list_iadd _]
  have made : (s.heap.push { cls := .type "list", data := .seq ([] : List Value).toArray }).get? s.heap.objs.size = some { cls := .type "list", data := .seq #[] 0 } := Heap.get?_push_size _ rfl
  have put := Heap.get?_update_self (Obj.mapSeq (· ++ its)) made rfl
  have last : wpAny (model prog w) A (do
      match (← load s.heap.objs.size).data with
        | Data.seq xs _ => pure xs.toList
        | _ => unsupported "internal:collect") Q E { s with heap := gatherH s.heap its } := by
    refine wpAny_bind (wpAny_load put (wpAny_pure ?_))
    rw [show ((#[] : Array Value) ++ its).toList = its.toList from by simp]
    exact q
  refine wpAny_mono (wpAny_extend_seq (hsz := fits) (A := A) (R := fun r z => r = .ok (.ret (.ref s.heap.objs.size)) ∧ z = { s with heap := gatherH s.heap its })
    (s := { s with heap := s.heap.push { cls := .type "list", data := .seq ([] : List Value).toArray } }) _ a _ 0 (.inr rfl) made (Heap.get?_push_of_some _ at_) kind data ⟨rfl, rfl⟩) (fun fin z h => ?_) (fun e z h => ?_)
  · cases fin with
    | done f => obtain ⟨e, rfl⟩ := h; cases e; exact last
    | again c => exact ⟨h.1, codeAny_mono h.2 fun r y hr => by obtain ⟨rfl, rfl⟩ := hr; exact last⟩
  · exact absurd h.1 (by simp)
section
variable {X : Cx}
def rSrtT (K : PySem.W.Frag) : List V → Hp → VK → Prop := fun vs H Q => ∃ (a : Addr) (ns : List Int), vs = [V.ref a] ∧ SqT K H a (ns.map V.int) ∧
  ∀ (ns' : List Int) (p : Addr), ns'.Perm ns → H p = none → Q (.ref p) (upd H p (.lst (ns'.map V.int)))
theorem cr_srtT : CallR X (.builtin "sorted") (rSrtT X.K) := by
  rintro pins s σ H vs us Q J r ⟨a, ns, rfl, ha, q⟩
  obtain ⟨its, rv, ⟨o, ho, hc, n, hd⟩, hz⟩ := J.tuple ha
  rw [Vals.ref1 r]
  have hi := rv.ints
  have len : its.length ≤ sizeLine := by rw [← rv.length]; exact hz
  refine Calls.call_function_entry kind_sorted plain_sorted entry_sorted (args_sorted1 _) ?_
  unfold Builtin.«sorted»; refine wpAny_bind (m := checkCount "sorted" 1 1 _) (wpAny_pure ?_)
  refine wpAny_bind (collect_tup ho hc hd (by simpa using len) ?_); refine wpAny_bind (wpAny_newList ?_ len)
  have size : (gatherH s.heap its.toArray).objs.size = s.heap.objs.size + 1 := by rw [Heap.size_update, size_push']
  have list : ((gatherH s.heap its.toArray).push (seqObj "list" its.toArray 0)).get? (gatherH s.heap its.toArray).objs.size = some (seqObj "list" its.toArray 0) := Heap.get?_push_size _ rfl
  refine wpAny_bind (wpAny_holding (wpAny_call_entry slot_list_sort ⟨_, list, rfl⟩ entry_list_sort ?_ (args_list_sort _)))
  refine SrtO.list_sort_ord SrtO.swo_int list len (fun two => SrtO.ints_sortable hi two) fun out sorted stable => ⟨_, rfl, ?_⟩
  obtain ⟨i1, i2, i3⟩ := SrtO.ints_out hi sorted stable
  obtain ⟨c, made⟩ := sortedHeap_at (vs := its) (out := out.toArray) list
  have keep : ∀ b u, s.heap.get? b = some u → (sortedHeap ((gatherH s.heap its.toArray).push (seqObj "list" its.toArray 0)) (gatherH s.heap its.toArray).objs.size its out.toArray).get? b = some u := fun b u e => by
    have old := gather_keep (its := its.toArray) e
    have lt := Heap.lt_size old
    rw [sortedHeap_old (Nat.ne_of_lt lt) (by rw [size_push']; exact Nat.lt_succ_of_lt lt)]
    exact Heap.get?_push_of_some _ old
  have big : s.heap.objs.size ≤ (gatherH s.heap its.toArray).objs.size := by rw [size]; exact Nat.le_succ _
  have hlen : ((out.map SrtO.iv).map V.int).length ≤ sizeLine := by
    rw [List.length_map, i2.length_eq, ← List.length_map (f := V.int)]
    exact hz
  exact wpAny_pure ⟨_, rfl, .ref _, upd H (gatherH s.heap its.toArray).objs.size (.lst ((out.map SrtO.iv).map V.int)), J.laid (t' := s.toks) keep big ⟨hlen, out, c, vals_of_ints i1, made⟩, rfl, q _ _ i2 (J.hok.fresh big)⟩
end
end Ct
/-! the law's own judge against the other one -/
namespace Ct
open PySem PySem.Spec PyProof.Rows L2
theorem barN_hit (ps : List Pass) (t : Int) (j k : Nat) : barN ps t j k = hitB ps t j k := by
  unfold barN hitB
  cases ps[j]? with
  | none => rfl
  | some p =>
    cases ps[k]? with
    | none => rfl
    | some q =>
      show (decide ((p.2.1 - q.2.1) % t = 0) && unlk p q) = (decide (p.2.1 % t = q.2.1 % t) && unlk p q)
      congr 1
      exact decide_eq_decide.mpr ⟨Int.emod_eq_emod_iff_emod_sub_eq_zero.mpr, Int.emod_eq_emod_iff_emod_sub_eq_zero.mp⟩
theorem hit_self (ps : List Pass) (t : Int) (j : Nat) : hitB ps t j j = false := by
  unfold hitB
  cases ps[j]? with
  | none => rfl
  | some p =>
    show (decide (p.2.1 % t = p.2.1 % t) && unlk p p) = false
    rw [unlk_self, Bool.and_false]
theorem bar_two (ps : List Pass) (t : Int) (d : PyData) : isBarB ps t d = twoB ps t d := by
  unfold isBarB
  split
  · rename_i x y
    cases x with
    | int j =>
      cases y with
      | int k =>
        show ((decide (0 ≤ j) && (decide (j ≤ k) && decide (k < (ps.length : Int)))) && barN ps t j.toNat k.toNat) = (decide (0 ≤ j) && (decide (j < k) && (decide (k < (ps.length : Int)) && hitB ps t j.toNat k.toNat)))
        rw [barN_hit]
        by_cases c : j = k
        · subst c
          rw [hit_self, Bool.and_false, Bool.and_false, Bool.and_false, Bool.and_false]
        · rw [show decide (j ≤ k) = decide (j < k) from decide_eq_decide.mpr (by omega), Bool.and_assoc, Bool.and_assoc]
      | none => rfl
      | bool _ => rfl
      | str _ => rfl
      | list _ => rfl
      | tuple _ => rfl
      | dict _ => rfl
    | none => rfl
    | bool _ => rfl
    | str _ => rfl
    | list _ => rfl
    | tuple _ => rfl
    | dict _ => rfl
  · rename_i no
    unfold twoB
    split
    · exact absurd rfl (no _ _)
    · rfl
theorem none_two {ps : List Pass} (wk : Walky ps) {j k : Int} (n : j ≠ k) : tnB ps (.int j) (.int k) = twoB ps ((ps.length : Int) + 1) (.tuple [.int j, .int k]) := by
  show ((decide (0 ≤ j) && (decide (j ≤ k) && decide (k < (ps.length : Int)))) && noneN ps j.toNat k.toNat) = (decide (0 ≤ j) && (decide (j < k) && (decide (k < (ps.length : Int)) && hitB ps ((ps.length : Int) + 1) j.toNat k.toNat)))
  rw [show decide (j ≤ k) = decide (j < k) from decide_eq_decide.mpr (by omega), Bool.and_assoc, Bool.and_assoc]
  by_cases a : 0 ≤ j
  · by_cases b : j < k
    · by_cases c : k < (ps.length : Int)
      · congr 3
        unfold noneN hitB
        obtain ⟨p, hp⟩ : ∃ p, ps[j.toNat]? = some p := ⟨_, List.getElem?_eq_getElem (by omega)⟩
        obtain ⟨q, hq⟩ : ∃ q, ps[k.toNat]? = some q := ⟨_, List.getElem?_eq_getElem (by omega)⟩
        rw [hp, hq]
        show (if j.toNat = k.toNat then wrongB p else (decide (p.2.1 = q.2.1) && unlk p q)) = (decide (p.2.1 % ((ps.length : Int) + 1) = q.2.1 % ((ps.length : Int) + 1)) && unlk p q)
        rw [if_neg (by omega)]
        congr 1
        obtain ⟨w1, w2⟩ := wk j.toNat k.toNat p q (by omega) hp hq
        exact decide_eq_decide.mpr ⟨fun e => by rw [e], fun e => emod_near e (by omega) (by omega)⟩
      · rw [decide_eq_false c, Bool.false_and, Bool.false_and]
    · rw [decide_eq_false b, Bool.false_and, Bool.false_and]
  · rw [decide_eq_false a, Bool.false_and, Bool.false_and]
theorem none_same (ps : List Pass) (j : Int) : tnB ps (.int j) (.int j) = decide (j ∈ wrongs ps ps.length) := by
  show ((decide (0 ≤ j) && (decide (j ≤ j) && decide (j < (ps.length : Int)))) && noneN ps j.toNat j.toNat) = decide (j ∈ wrongs ps ps.length)
  have mem : j ∈ wrongs ps ps.length ↔ 0 ≤ j ∧ j < (ps.length : Int) ∧ wrongAt ps j.toNat = true := by
    unfold wrongs
    constructor
    · intro h
      obtain ⟨k, hk, e⟩ := List.mem_map.mp h
      obtain ⟨h1, h2⟩ := List.mem_filter.mp hk
      have h1 := List.mem_range.mp h1
      have e : (k : Int) = j := e
      subst e
      exact ⟨by omega, by omega, by rw [Int.toNat_natCast]; exact h2⟩
    · rintro ⟨h0, h1, h2⟩
      exact List.mem_map.mpr ⟨j.toNat, List.mem_filter.mpr ⟨List.mem_range.mpr (by omega), h2⟩, by show ((j.toNat : Nat) : Int) = j; omega⟩
  rw [decide_eq_true (show j ≤ j by omega), Bool.true_and]
  by_cases a : 0 ≤ j
  · by_cases c : j < (ps.length : Int)
    · obtain ⟨p, hp⟩ : ∃ p, ps[j.toNat]? = some p := ⟨_, List.getElem?_eq_getElem (by omega)⟩
      have e1 : noneN ps j.toNat j.toNat = wrongB p := by
        unfold noneN
        rw [hp]
        show (if j.toNat = j.toNat then wrongB p else _) = wrongB p
        rw [if_pos rfl]
      have e2 : wrongAt ps j.toNat = wrongB p := by unfold wrongAt; rw [hp]
      rw [e1, decide_eq_true a, decide_eq_true c, Bool.true_and, Bool.true_and]
      rw [e2] at mem
      cases z : wrongB p with
      | true => exact (decide_eq_true (mem.mpr ⟨a, c, z⟩)).symm
      | false => exact (decide_eq_false fun h => by have := (mem.mp h).2.2; rw [z] at this; cases this).symm
    · rw [decide_eq_false c, Bool.and_false, Bool.false_and]
      exact (decide_eq_false fun h => c (mem.mp h).2.1).symm
  · rw [decide_eq_false a, Bool.false_and, Bool.false_and]
    exact (decide_eq_false fun h => a (mem.mp h).1).symm
theorem tnB_l {ps : List Pass} {x y : PyData} (h : isW x = false) : tnB ps x y = false := by
  unfold tnB
  cases x with
  | int i => cases h
  | none => rfl
  | bool _ => rfl
  | str _ => rfl
  | list _ => rfl
  | tuple _ => rfl
  | dict _ => rfl
theorem tnB_r {ps : List Pass} {i : Int} {y : PyData} (h : isW y = false) : tnB ps (.int i) y = false := by
  unfold tnB
  cases y with
  | int i => cases h
  | none => rfl
  | bool _ => rfl
  | str _ => rfl
  | list _ => rfl
  | tuple _ => rfl
  | dict _ => rfl
theorem twB_l {ps : List Pass} {x y z : PyData} (h : isW x = false) : twB ps x y z = false := by
  cases x with
  | int i => cases h
  | none => rfl
  | bool _ => rfl
  | str _ => rfl
  | list _ => rfl
  | tuple _ => rfl
  | dict _ => rfl
def twosF (ps : List Pass) : Nat → List PyData → List Bool
  | _, [] => []
  | i, b :: r => twoB ps ((i + 1 : Nat) : Int) b :: twosF ps (i + 1) r
theorem twosF_all (ps : List Pass) : ∀ (bs : List PyData) (i : Nat), (twosF ps i bs).all id = barsF ps i bs
  | [], _ => rfl
  | b :: r, i => by
    rw [twosF, barsF, bar_two, List.all_cons, twosF_all ps r]
    rfl
theorem twosF_get (ps : List Pass) : ∀ (bs : List PyData) (i n : Nat) (b : PyData), bs[n]? = some b → (twosF ps i bs)[n]? = some (twoB ps ((i + n + 1 : Nat) : Int) b)
  | [], _, _, _, h => by simp at h
  | c :: r, i, 0, b, h => by
    cases Option.some.inj h
    rfl
  | c :: r, i, n + 1, b, h => by
    have := twosF_get ps r (i + 1) n b h
    rw [show i + (n + 1) + 1 = i + 1 + n + 1 by omega]
    exact this
theorem twosF_len (ps : List Pass) : ∀ (bs : List PyData) (i : Nat), (twosF ps i bs).length = bs.length
  | [], _ => rfl
  | b :: r, i => by rw [twosF, List.length_cons, twosF_len ps r, List.length_cons]
theorem w_ninL {K : PySem.W.Frag} {H : Hp} {Q : VK} {p : Addr} {x : Int} {ns : List Int} (h : SqL K H p (ns.map V.int)) (q : Q (.bl (!decide (x ∈ ns))) H) : rIn K true (.int x) (.ref p) H Q := by
  refine ⟨p, ns.map V.int, rfl, .inl h, rfl, ?_, ?_⟩
  · rw [List.all_map]
    exact List.all_eq_true.mpr fun _ _ => rfl
  · rw [if_pos rfl]
    rw [show inV (.int x) (ns.map V.int) = decide (x ∈ ns) from by
      unfold inV
      rw [List.any_map]
      by_cases e : x ∈ ns
      · rw [decide_eq_true e, List.any_eq_true]
        exact ⟨x, e, by show (x == x) = true; exact beq_self_eq_true x⟩
      · rw [decide_eq_false e, List.any_eq_false]
        intro y hy
        show ¬ (y == x) = true
        intro z
        exact e (eq_of_beq z ▸ hy)]
    exact q
theorem eqv_str (x y : Str) : PyData.eqv (.str x) (.str y) = decide (x = y) := by
  rw [PyData.eqv]
  by_cases c : x = y
  · rw [c, decide_eq_true rfl, beq_self_eq_true]
  · rw [decide_eq_false c, beq_false_of_ne c]
theorem eqv_nostr {w : PyData} {y : Str} (h : ∀ x, w ≠ .str x) : PyData.eqv w (.str y) = false := by
  cases w with
  | str x => exact absurd rfl (h x)
  | none => rfl
  | bool b => cases b <;> rfl
  | int i => rfl
  | list xs => rfl
  | tuple xs => rfl
  | dict kvs => rfl
theorem rightB_5 {ps : List Pass} {a b c d e : PyData} {r : List PyData} : rightB ps (.tuple (a :: b :: c :: d :: e :: r)) = false := rfl
theorem rightB_4 {ps : List Pass} {w a b c : PyData} : rightB ps (.tuple [w, a, b, c]) = (PyData.eqv w (.str "wheel") && twB ps a b c) := rfl
theorem rightB_3 {ps : List Pass} {w a b : PyData} : rightB ps (.tuple [w, a, b]) = (PyData.eqv w (.str "none") && tnB ps a b) := rfl
end Ct
/-! spots as keys -/
namespace Ct
open PySem PySem.Spec PyProof.Rows L2
def spotO (cs : List Int) (t : Int) (i : Nat) : Option Int := if cs[i]? = some 0 then none else some (toothN cs i % t)
/-- the places so far, by their spots -/
def SpK (cs : List Int) (t : Int) (k : Nat) (o : Option Int) (j : Int) : Prop := ∃ jn : Nat, j = (jn : Int) ∧ jn < k ∧ o = spotO cs t jn
theorem spotO_at {cs : List Int} {t : Int} {i : Nat} {c : Int} (h : cs[i]? = some c) : spotO cs t i = if c = 0 then none else some (toothN cs i % t) := by
  unfold spotO
  rw [h]
  by_cases z : c = 0
  · rw [if_pos z, if_pos (by rw [z])]
  · rw [if_neg z, if_neg (by simpa using z)]
theorem spot_hit {cs : List Int} {ss : List (Int × Int)} (hl : cs.length = ss.length) {t : Int} {j k : Nat} {zj zk : Int × Int} (hj : ss[j]? = some zj) (hk : ss[k]? = some zk) (e : spotO cs t j = spotO cs t k) (n : spotO cs t k ≠ none) (u : (decide (zj.2 = 0) != decide (zk.2 = 0)) = true) : Hit (passN cs ss ss.length) t j k := by
  have jl := (List.getElem?_eq_some_iff.mp hj).1
  have kl := (List.getElem?_eq_some_iff.mp hk).1
  obtain ⟨cj, hcj⟩ : ∃ c, cs[j]? = some c := ⟨_, List.getElem?_eq_getElem (by omega)⟩
  obtain ⟨ck, hck⟩ : ∃ c, cs[k]? = some c := ⟨_, List.getElem?_eq_getElem (by omega)⟩
  rw [spotO_at hck] at e n
  have c1 : ck ≠ 0 := fun z => n (by rw [if_pos z])
  rw [spotO_at hcj, if_neg c1] at e
  have c0 : cj ≠ 0 := fun z => by
    rw [if_pos z] at e
    cases e
  rw [if_neg c0] at e
  refine hitB_iff.mp ?_
  unfold hitB
  rw [pass_at hl hcj hj, pass_at hl hck hk]
  show (decide (toothN cs j % t = toothN cs k % t) && (!decide (cj = 0) && (!decide (ck = 0) && (decide (zj.2 = 0) != decide (zk.2 = 0))))) = true
  rw [u, decide_eq_true (Option.some.inj e), decide_eq_false c0, decide_eq_false c1]
  rfl
theorem hit_spot {cs : List Int} {ss : List (Int × Int)} (hl : cs.length = ss.length) {t : Int} {j k : Nat} {zj zk : Int × Int} (hj : ss[j]? = some zj) (hk : ss[k]? = some zk) (h : Hit (passN cs ss ss.length) t j k) : spotO cs t j = spotO cs t k ∧ spotO cs t k ≠ none ∧ (decide (zj.2 = 0) != decide (zk.2 = 0)) = true := by
  have jl := (List.getElem?_eq_some_iff.mp hj).1
  have kl := (List.getElem?_eq_some_iff.mp hk).1
  obtain ⟨cj, hcj⟩ : ∃ c, cs[j]? = some c := ⟨_, List.getElem?_eq_getElem (by omega)⟩
  obtain ⟨ck, hck⟩ : ∃ c, cs[k]? = some c := ⟨_, List.getElem?_eq_getElem (by omega)⟩
  have h := hitB_iff.mpr h
  unfold hitB at h
  rw [pass_at hl hcj hj, pass_at hl hck hk] at h
  have h : (decide (toothN cs j % t = toothN cs k % t) && (!decide (cj = 0) && (!decide (ck = 0) && (decide (zj.2 = 0) != decide (zk.2 = 0))))) = true := h
  rw [Bool.and_eq_true, Bool.and_eq_true, Bool.and_eq_true] at h
  obtain ⟨h1, h2, h3, h4⟩ := h
  have h1 := of_decide_eq_true h1
  have c0 : cj ≠ 0 := fun z => by rw [decide_eq_true z] at h2; cases h2
  have c1 : ck ≠ 0 := fun z => by rw [decide_eq_true z] at h3; cases h3
  rw [spotO_at hcj, spotO_at hck, if_neg c0, if_neg c1, h1]
  exact ⟨rfl, (fun z => nomatch z), h4⟩
theorem barD_snoc {K : PySem.W.Frag} {H : Hp} {us : List V} {bars : List (Nat × Nat)} {g : Addr} {j k : Nat} (h : DpAll K H us (bars.map barD)) (hg : SqT K H g [.int (j : Int), .int (k : Int)]) : DpAll K H (us ++ [.ref g]) ((bars ++ [(j, k)]).map barD) := by
  rw [List.map_append]
  exact dpAll_app h (.cons (.tup hg (.cons (.int _) (.cons (.int _) .nil))) .nil)
end Ct
namespace Ct
open PySem PySem.Spec PyProof.Rows L2
theorem rightB_no {ps : List Pass} {w : PyData} {r : List PyData} (h : ∀ x, w ≠ .str x) : rightB ps (.tuple (w :: r)) = false := by
  match r with
  | [] => rfl
  | [_] => rfl
  | [_, _] => rw [rightB_3, eqv_nostr h]; rfl
  | [_, _, _] => rw [rightB_4, eqv_nostr h]; rfl
  | _ :: _ :: _ :: _ :: _ => rfl
theorem rightB_w3 {ps : List Pass} {x : Str} {a b : PyData} : rightB ps (.tuple [.str x, a, b]) = (decide (x = "none") && tnB ps a b) := by rw [rightB_3, eqv_str]
theorem rightB_w4 {ps : List Pass} {x : Str} {a b c : PyData} : rightB ps (.tuple [.str x, a, b, c]) = (decide (x = "wheel") && twB ps a b c) := by rw [rightB_4, eqv_str]
theorem twB_nolist {ps : List Pass} {x y z : PyData} (h : ∀ bs, z ≠ .list bs) : twB ps x y z = false := by
  cases x with
  | int i =>
    cases z with
    | list bs => exact absurd rfl (h bs)
    | none => rfl
    | bool _ => rfl
    | int _ => rfl
    | str _ => rfl
    | tuple _ => rfl
    | dict _ => rfl
  | none => rfl
  | bool _ => rfl
  | str _ => rfl
  | list _ => rfl
  | tuple _ => rfl
  | dict _ => rfl
theorem twB_at {ps : List Pass} {t : Int} {d : PyData} {bs : List PyData} : twB ps (.int t) d (.list bs) = (decide (1 ≤ t) && (decide ((bs.length : Int) = t - 1) && (barsF ps 0 bs && (areM d t && doesB t (marksD d) ps)))) := rfl
theorem twB_nomarks {ps : List Pass} {t : Int} {d z : PyData} (h : areM d t = false) : twB ps (.int t) d z = false := by
  cases z with
  | list bs => rw [twB_at, h, Bool.false_and, Bool.and_false, Bool.and_false, Bool.and_false]
  | none => rfl
  | bool _ => rfl
  | int _ => rfl
  | str _ => rfl
  | tuple _ => rfl
  | dict _ => rfl
end Ct
namespace Ct
open PySem PySem.Spec PyProof.Rows L2
theorem Bn.ins {ds : List PyData} {n m : Nat} (h : Bn (.tuple ds) (n + 1) m) : BnA ds n m := ⟨h.ok, h.lay, by have := h.dep; rw [PyData.depth] at this; omega, h.bk⟩
end Ct
namespace Ct
open PySem PySem.Spec PyProof.Rows L2
theorem w_catN {K : PySem.W.Frag} {H : Hp} {Q : VK} {a b : Addr} {xs ys : List V} (ha : SqT K H a xs) (hb : SqT K H b ys) (nx : xs ≠ []) (ny : ys ≠ []) (l : xs.length + ys.length ≤ 1000) (q : ∀ p, H p = none → Q (.ref p) (upd H p (.tup (xs ++ ys)))) : rCatA K (.ref a) (.ref b) H Q :=
  ⟨a, b, xs, ys, rfl, rfl, ha, hb, Nat.le_of_lt (small1000 l), fun hx => absurd hx nx, fun _ hy => absurd hy ny, fun _ _ p np => q p np⟩
theorem two_hit {ps : List Pass} {t : Int} {j k : Nat} (jk : j < k) (h : Hit ps t j k) : twoB ps t (.tuple [.int (j : Int), .int (k : Int)]) = true := by
  show (decide (0 ≤ (j : Int)) && (decide ((j : Int) < k) && (decide ((k : Int) < (ps.length : Int)) && hitB ps t ((j : Int)).toNat ((k : Int)).toNat))) = true
  have := h.lt
  rw [Int.toNat_natCast, Int.toNat_natCast, hitB_iff.mpr h, decide_eq_true (by omega), decide_eq_true (by omega), decide_eq_true (by omega)]
  rfl
theorem bars_hit {ps : List Pass} : ∀ {bars : List (Nat × Nat)} {i : Nat}, (∀ (n : Nat) (b : Nat × Nat), bars[n]? = some b → b.1 < b.2 ∧ Hit ps ((i + n + 1 : Nat) : Int) b.1 b.2) → barsF ps i (bars.map barD) = true
  | [], _, _ => rfl
  | b :: r, i, h => by
    rw [List.map_cons, barsF, bar_two]
    have h0 := h 0 b rfl
    rw [show twoB ps ((i + 1 : Nat) : Int) (barD b) = true from two_hit h0.1 h0.2, Bool.true_and]
    exact bars_hit fun n c hc => by
      have := h (n + 1) c hc
      rw [show i + 1 + n + 1 = i + (n + 1) + 1 by omega]
      exact this
theorem rise_len {t : Nat} {ms : List Int} (mr : Rise t ms) : ms.length ≤ t := by
  have := sub_len ms ((List.range t).map fun (j : Nat) => (j : Int)) (rise_nodup mr.1) fun x hx => List.mem_map.mpr ⟨x.toNat, List.mem_range.mpr (by have := mr.2 x hx; omega), by have := mr.2 x hx; omega⟩
  rw [List.length_map, List.length_range] at this
  exact this
theorem made_wheel {ps : List Pass} {t : Nat} {ms : List Int} {bars : List (Nat × Nat)} (t1 : 1 ≤ t) (nw : ∀ p ∈ ps, wrongB p = false) (free : freeB ps t = true) (im : IsMarks ps t ms) (bl : bars.length + 1 = t) (hb : ∀ (n : Nat) (b : Nat × Nat), bars[n]? = some b → b.1 < b.2 ∧ Hit ps ((n + 1 : Nat) : Int) b.1 b.2) : rightB ps (wheelD t ms bars) = true := by
  rw [right_wheel, does_marks nw (freeB_iff.mp free) im, areM_ok (im.rise (by omega)), bars_hit (i := 0) fun n b h => by rw [Nat.zero_add]; exact hb n b h, decide_eq_true (by omega), decide_eq_true (by rw [List.length_map]; omega)]
  rfl
theorem wrongs_nat {ps : List Pass} {n : Nat} {x : Int} (h : x ∈ wrongs ps n) : ∃ k : Nat, x = (k : Int) ∧ k < n := by
  obtain ⟨k, hk, e⟩ := List.mem_map.mp h
  exact ⟨k, e.symm, List.mem_range.mp (List.mem_filter.mp hk).1⟩
theorem made_none {ps : List Pass} {k : Nat} (h : (k : Int) ∈ wrongs ps ps.length) : rightB ps (noneD k k) = true := by
  show (PyData.eqv (.str "none") (.str "none") && tnB ps (.int k) (.int k)) = true
  rw [none_same, decide_eq_true h]
  rfl
theorem made_two {ps : List Pass} (wk : Walky ps) {j k : Nat} (jk : j < k) (h : Hit ps ((ps.length : Int) + 1) j k) : rightB ps (noneD j k) = true := by
  show (PyData.eqv (.str "none") (.str "none") && tnB ps (.int j) (.int k)) = true
  rw [none_two wk (by omega), two_hit jk h]
  rfl
end Ct
/-! tuples and lists of such data -/
namespace Ct
open PySem PySem.Spec PyProof.Rows L2
section
variable {K : PySem.W.Frag} {H : Hp} {σ : L2.St} {Q : VK} {x y : V} {n m k : Nat}
def TB (K : PySem.W.Frag) (G : Hp) (v : V) (n m : Nat) : Prop := ∃ (p : Addr) (vs : List V) (ds : List PyData), v = .ref p ∧ SqT K G p vs ∧ DpAll K G vs ds ∧ BnA ds n m
def LsB (K : PySem.W.Frag) (G : Hp) (v : V) (n m : Nat) : Prop := ∃ (p : Addr) (vs : List V) (ds : List PyData), v = .ref p ∧ G p = some (.lst vs) ∧ DpAll K G vs ds ∧ BnA ds n m
/-- any such data -/
def VB (K : PySem.W.Frag) (G : Hp) (v : V) (n m : Nat) : Prop := ∃ d, Dp K G v d ∧ Bn d n m
theorem TB.same {H' : Hp} (h : TB K H x n m) (s : Same H H') : TB K H' x n m := by
  obtain ⟨p, vs, ds, e, h1, h2, h3⟩ := h
  exact ⟨p, vs, ds, e, Same.tup s h1, dpAll_same s h2, h3⟩
theorem LsB.same {H' : Hp} (h : LsB K H x n m) (s : Same H H') : LsB K H' x n m := by
  obtain ⟨p, vs, ds, e, h1, h2, h3⟩ := h
  exact ⟨p, vs, ds, e, s _ _ h1, dpAll_same s h2, h3⟩
theorem VB.same {H' : Hp} (h : VB K H x n m) (s : Same H H') : VB K H' x n m := by
  obtain ⟨d, h1, h2⟩ := h
  exact ⟨d, dp_same s h1, h2⟩
theorem TB.vb (h : TB K H x n m) : VB K H x (n + 1) m := by
  obtain ⟨p, vs, ds, rfl, h1, h2, h3⟩ := h
  exact ⟨_, .tup h1 h2, h3.tup⟩
theorem LsB.vb (h : LsB K H x n m) : VB K H x (n + 1) m := by
  obtain ⟨p, vs, ds, rfl, h1, h2, h3⟩ := h
  exact ⟨_, .lst (.of h1) h2, h3.lst⟩
theorem VB.mono {n' m' : Nat} (h : VB K H x n m) (e : n ≤ n') (e' : m ≤ m') : VB K H x n' m' := by
  obtain ⟨d, h1, h2⟩ := h
  exact ⟨d, h1, h2.mono e e'⟩
theorem TB.mono {n' m' : Nat} (h : TB K H x n m) (e : n ≤ n') (e' : m ≤ m') : TB K H x n' m' := by
  obtain ⟨p, vs, ds, e1, h1, h2, h3⟩ := h
  exact ⟨p, vs, ds, e1, h1, h2, h3.mono e e'⟩
theorem LsB.mono {n' m' : Nat} (h : LsB K H x n m) (e : n ≤ n') (e' : m ≤ m') : LsB K H x n' m' := by
  obtain ⟨p, vs, ds, e1, h1, h2, h3⟩ := h
  exact ⟨p, vs, ds, e1, h1, h2, h3.mono e e'⟩
theorem VB.int {i : Int} (h : i.natAbs < 2 ^ 200) : VB K H (.int i) n m := ⟨_, .int i, Bn.int h⟩
theorem VB.bl {b : Bool} : VB K H (.bl b) n m := ⟨_, .bl b, Bn.bl⟩
theorem VB.non : VB K H .non n m := ⟨_, .non, ⟨rfl, rfl, Nat.zero_le _, Nat.zero_le _⟩⟩
theorem VB.str {z : Str} (h : bnB n m (.str z) = true) : VB K H (.str z) n m := ⟨_, .str z, bn_by h⟩
theorem TB.nil {p : Addr} (h : SqT K H p []) : TB K H (.ref p) n 0 := ⟨p, [], [], rfl, h, .nil, .nil⟩
theorem TB.one {p : Addr} {v : V} (h : SqT K H p [v]) (g : VB K H v n m) : TB K H (.ref p) n (m + 1) := by
  obtain ⟨d, h1, h2⟩ := g
  exact ⟨p, [v], [d], rfl, h, .cons h1 .nil, (BnA.cons h2 .nil0)⟩
theorem TB.two {p : Addr} {v u : V} (h : SqT K H p [v, u]) (g : VB K H v n m) (g2 : VB K H u n k) : TB K H (.ref p) n (m + 1 + (k + 1)) := by
  obtain ⟨d, h1, h2⟩ := g
  obtain ⟨e, h3, h4⟩ := g2
  exact ⟨p, _, [d, e], rfl, h, .cons h1 (.cons h3 .nil), (BnA.cons h2 (BnA.cons h4 .nil0))⟩
theorem LsB.one {p : Addr} {v : V} (h : H p = some (.lst [v])) (g : VB K H v n m) : LsB K H (.ref p) n (m + 1) := by
  obtain ⟨d, h1, h2⟩ := g
  exact ⟨p, [v], [d], rfl, h, .cons h1 .nil, (BnA.cons h2 .nil0)⟩
theorem TB.ints {p : Addr} {ns : List Int} (h : SqT K H p (ns.map V.int)) (b : ∀ z ∈ ns, z.natAbs < 2 ^ 200) (l : ns.length ≤ m) : TB K H (.ref p) n m := ⟨p, _, _, rfl, h, dpAll_ints ns, BnA.ints b l⟩
theorem LsB.ints {p : Addr} {ns : List Int} (h : H p = some (.lst (ns.map V.int))) (b : ∀ z ∈ ns, z.natAbs < 2 ^ 200) (l : ns.length ≤ m) : LsB K H (.ref p) n m := ⟨p, _, _, rfl, h, dpAll_ints ns, BnA.ints b l⟩
theorem w_catTB (hx : TB K H x n m) (hy : TB K H y n k) (l : m + k ≤ 1000) (q : ∀ u H', Same H H' → TB K H' u n (m + k) → Q u H') : rCatA K x y H Q := by
  obtain ⟨a, xs, ds, rfl, h1, h2, h3⟩ := hx
  obtain ⟨b, ys, es, rfl, g1, g2, g3⟩ := hy
  have lx := dpAll_len h2
  have ly := dpAll_len g2
  have := h3.len
  have := g3.len
  exact w_catA h1 g1 (by omega) fun u H' s hu => q _ H' s ⟨u, _, _, rfl, hu, dpAll_same s (dpAll_app h2 g2), h3.app g3⟩
theorem w_catTB' (hx : TB K H x n m) (hy : TB K H y n k) (q : ∀ u H', Same H H' → TB K H' u n (m + k) → Q u H') (l : m + k ≤ 1000 * 1000 := by decide) : rCatA K x y H Q := by
  obtain ⟨a, xs, ds, rfl, h1, h2, h3⟩ := hx
  obtain ⟨b, ys, es, rfl, g1, g2, g3⟩ := hy
  have lx := dpAll_len h2
  have ly := dpAll_len g2
  have := h3.len
  have := g3.len
  have d := dpAll_app h2 g2
  have b := h3.app g3
  refine ⟨a, _, xs, ys, rfl, rfl, h1, g1, Nat.le_trans (show xs.length + ys.length ≤ 1000 * 1000 by omega) (by rw [sizeLine_eq]; decide), fun z => ?_, fun _ z => ?_, fun _ _ p np => q _ _ (same_upd np) ⟨p, _, _, rfl, .of upd_same, dpAll_same (same_upd np) d, b⟩⟩
  · rw [z, List.nil_append] at d
    exact q _ H (Same.refl H) ⟨_, _, _, rfl, g1, d, b⟩
  · rw [z, List.append_nil] at d
    exact q _ H (Same.refl H) ⟨_, _, _, rfl, h1, d, b⟩
theorem cut_whole {xs : List V} {lo hi : Option Int} (h : HT.sIx xs.length 0 lo = 0 ∧ HT.sIx xs.length xs.length hi = xs.length) : cutV xs lo hi = xs := by
  unfold cutV
  rw [h.1, h.2, List.drop_zero, Nat.sub_zero, List.take_length]
theorem dpAll_cutB {vs : List V} {ds : List PyData} (lo hi : Option Int) (h : DpAll K H vs ds) (b : BnA ds n m) : ∃ es, DpAll K H (cutV vs lo hi) es ∧ BnA es n m := ⟨_, dpAll_take _ (dpAll_drop _ h), (b.drop (HT.sIx vs.length 0 lo)).take _⟩
theorem w_slTB {lo hi : Option Int} (hx : TB K H x n m) (q : ∀ u H', Same H H' → TB K H' u n m → Q u H') : rSlA K x lo hi H Q := by
  obtain ⟨a, xs, ds, rfl, h1, h2, h3⟩ := hx
  refine ⟨a, xs, rfl, h1, fun _ => q _ H (Same.refl H) ⟨a, xs, ds, rfl, h1, h2, h3⟩, fun _ p np => ?_⟩
  obtain ⟨es, g1, g2⟩ := dpAll_cutB lo hi h2 h3
  exact q _ _ (same_upd np) ⟨p, _, es, rfl, .of upd_same, dpAll_same (same_upd np) g1, g2⟩
theorem rev_TB (hx : TB K H x n m) (q : ∀ u H', Same H H' → TB K H' u n m → Q u H') : ∃ a xs, x = .ref a ∧ SqT K H a xs ∧ ∀ p, H p = none → Q (.ref p) (upd H p (.tup xs.reverse)) := by
  obtain ⟨a, xs, ds, rfl, h1, h2, h3⟩ := hx
  exact ⟨a, xs, rfl, h1, fun p np => q _ _ (same_upd np) ⟨p, _, _, rfl, .of upd_same, dpAll_same (same_upd np) (dpAll_rev h2), h3.rev⟩⟩
theorem rev_LB (hx : LsB K H x n m) (q : ∀ u H', Same H H' → LsB K H' u n m → Q u H') : ∃ a xs, x = .ref a ∧ SqL K H a xs ∧ ∀ p, H p = none → Q (.ref p) (upd H p (.lst xs.reverse)) := by
  obtain ⟨a, xs, ds, rfl, h1, h2, h3⟩ := hx
  exact ⟨a, xs, rfl, .of h1, fun p np => q _ _ (same_upd np) ⟨p, _, _, rfl, upd_same, dpAll_same (same_upd np) (dpAll_rev h2), h3.rev⟩⟩
theorem w_catLB (hx : LsB K H x n m) (hy : LsB K H y n k) (l : m + k ≤ 1000 * 1000) (q : ∀ u H', Same H H' → LsB K H' u n (m + k) → Q u H') : rCat x y H Q := by
  obtain ⟨a, xs, ds, rfl, h1, h2, h3⟩ := hx
  obtain ⟨b, ys, es, rfl, g1, g2, g3⟩ := hy
  have lx := dpAll_len h2
  have ly := dpAll_len g2
  have := h3.len
  have := g3.len
  exact ⟨a, b, xs, ys, rfl, rfl, h1, g1, Nat.le_trans (show xs.length + ys.length ≤ 1000 * 1000 by omega) (by rw [sizeLine_eq]; decide), fun p np => q _ _ (same_upd np) ⟨p, _, _, rfl, upd_same, dpAll_same (same_upd np) (dpAll_app h2 g2), h3.app g3⟩⟩
theorem w_slLB {lo hi : Option Int} (hx : LsB K H x n m) (q : ∀ u H', Same H H' → LsB K H' u n m → Q u H') : rSlL K x lo hi H Q := by
  obtain ⟨a, xs, ds, rfl, h1, h2, h3⟩ := hx
  refine ⟨a, xs, rfl, .of h1, fun p np => ?_⟩
  obtain ⟨es, g1, g2⟩ := dpAll_cutB lo hi h2 h3
  exact q _ _ (same_upd np) ⟨p, _, es, rfl, upd_same, dpAll_same (same_upd np) g1, g2⟩
theorem tup_LB (hx : LsB K H x n m) (q : ∀ u H', Same H H' → TB K H' u n m → Q u H') : ∃ p ys, [x] = [V.ref p] ∧ ((SqL K H p ys ∧ ∀ l, H l = none → Q (.ref l) (upd H l (.tup ys))) ∨ (SqT K H p ys ∧ Q (.ref p) H)) := by
  obtain ⟨a, xs, ds, rfl, h1, h2, h3⟩ := hx
  exact ⟨a, xs, rfl, .inl ⟨.of h1, fun p np => q _ _ (same_upd np) ⟨p, _, _, rfl, .of upd_same, dpAll_same (same_upd np) h2, h3⟩⟩⟩
theorem lst_TB (hx : TB K H x n m) (q : ∀ u H', Same H H' → LsB K H' u n m → Q u H') : ∃ p ys, [x] = [V.ref p] ∧ (SqL K H p ys ∨ SqT K H p ys) ∧ ∀ l, H l = none → Q (.ref l) (upd H l (.lst ys)) := by
  obtain ⟨a, xs, ds, rfl, h1, h2, h3⟩ := hx
  exact ⟨a, xs, rfl, .inr h1, fun p np => q _ _ (same_upd np) ⟨p, _, _, rfl, upd_same, dpAll_same (same_upd np) h2, h3⟩⟩
theorem w_revT {te : TE} (h : te σ H fun x H1 => ∃ a xs, x = .ref a ∧ SqT K H1 a xs ∧ ∀ p, H1 p = none → Q (.ref p) (upd H1 p (.tup xs.reverse))) : tRevT K te σ H Q := h
/-- one of a list, whichever it is -/
theorem w_someB {a : Addr} {xs : List V} {r : Int} (h : H a = some (.lst xs)) (r0 : 0 ≤ r) (r1 : r < (xs.length : Int)) (q : ∀ v, v ∈ xs → Q v H) : rIxL K (.ref a) (.int r) H Q := by
  obtain ⟨j, rfl⟩ : ∃ j : Nat, r = j := ⟨r.toNat, by omega⟩
  exact w_ixL (.of h) (atI_nat (List.getElem?_eq_getElem (by omega))) (q _ (List.getElem_mem _))
end
end Ct
namespace Ct
open PySem PySem.Spec PyProof.Rows L2
section
variable {K : PySem.W.Frag} {H H' : Hp} {x : V} {n m c c' : Nat} {D : Addr}
theorem LsB.dr (h : LsB K H x n m) (d : Dr D c' H H') (hD : H D = some (DrO D c)) : LsB K H' x n m := by
  obtain ⟨p, vs, ds, e, h1, h2, h3⟩ := h
  exact ⟨p, vs, ds, e, d.at hD h1, d.all hD h2, h3⟩
/-- one of the bars at most -/
theorem cut_one {us : List V} {bars : List (Nat × Nat)} {at_ : Int} (h0 : 0 ≤ at_) (hu : DpAll K H us (bars.map barD)) : ∃ bs : List (Nat × Nat), DpAll K H (cutV us (some at_) (some (at_ + 1))) (bs.map barD) ∧ bs.length ≤ 1 ∧ ∀ b ∈ bs, b ∈ bars := by
  obtain ⟨j, rfl⟩ : ∃ j : Nat, at_ = j := ⟨at_.toNat, by omega⟩
  refine ⟨(bars.drop (HT.sIx us.length 0 (some (j : Int)))).take (HT.sIx us.length us.length (some ((j : Int) + 1)) - HT.sIx us.length 0 (some (j : Int))), ?_, ?_, fun b hb => List.mem_of_mem_drop (List.mem_of_mem_take hb)⟩
  · have := dpAll_take (HT.sIx us.length us.length (some ((j : Int) + 1)) - HT.sIx us.length 0 (some (j : Int))) (dpAll_drop (HT.sIx us.length 0 (some (j : Int))) hu)
    rw [← List.map_drop, ← List.map_take] at this
    exact this
  · rw [List.length_take, show ((j : Int) + 1) = ((j + 1 : Nat) : Int) from rfl, HT.sIx_nat, HT.sIx_nat]
    omega
end
end Ct
namespace Ct
open PySem PySem.Spec PyProof.Rows L2
theorem w_slTI {K : PySem.W.Frag} {H : Hp} {Q : VK} {a : Addr} {ms : List Int} {lo hi : Option Int} (h : SqT K H a (ms.map V.int)) (q : ∀ p H' (ns : List Int), Same H H' → SqT K H' p (ns.map V.int) → ns.length ≤ ms.length → (∀ z ∈ ns, z ∈ ms) → Q (.ref p) H') : rSlA K (.ref a) lo hi H Q := by
  refine ⟨a, ms.map V.int, rfl, h, fun _ => q a H ms (Same.refl H) h (Nat.le_refl _) (fun _ z => z), fun _ p np => ?_⟩
  refine q p _ _ (same_upd np) (.of (by rw [upd_same, cutV_map])) ?_ fun z hz => List.mem_of_mem_drop (List.mem_of_mem_take hz)
  rw [List.length_take, List.length_drop]
  omega
end Ct
namespace Ct
open PySem PySem.Spec PyProof.Rows L2
theorem VB.dr {K : PySem.W.Frag} {H H' : Hp} {x : V} {n m c c' : Nat} {D : Addr} (h : VB K H x n m) (d : Dr D c' H H') (hD : H D = some (DrO D c)) : VB K H' x n m := by
  obtain ⟨e, h1, h2⟩ := h
  cases d.all hD (.cons h1 .nil) with
  | cons g _ => exact ⟨e, g, h2⟩
theorem MdT.open {K : PySem.W.Frag} {R : PyData → Prop} {H : Hp} {g : Addr} (h : MdT K R H g) : ∃ xs ds, H g = some (.tup xs) ∧ DpAll K H xs ds ∧ BnA ds 2 1400 := by
  rcases h with ⟨j, k, h1, h2, h3, h4⟩ | ⟨t, m, b, ms, us, bars, h1, h2, h3, h4, h5, h7⟩
  · exact ⟨_, _, h1, .cons (.str _) (.cons (.int _) (.cons (.int _) .nil)), ((bn_none (j := j) (k := k) (by omega) (by omega)).ins).mono (by decide) (by decide)⟩
  · exact ⟨_, _, h1, .cons (.str _) (.cons (.int _) (.cons (tupD_dp (.of h2)) (.cons (.lst (.of h3) h4) .nil))), (bn_wheel h5).ins⟩
end Ct
namespace Ct
open PySem PySem.Spec PyProof.Rows L2
theorem BnA.shows : ∀ {ss : List (Int × Int)}, (∀ s ∈ ss, Sh2Ok s) → BnA (ss.map sh2D) 1 (3 * ss.length)
  | [], _ => .nil
  | s :: r, h => by
    have hs := h s List.mem_cons_self
    have t := BnA.shows (ss := r) fun y hy => h y (List.mem_cons_of_mem _ hy)
    have b1 : s.1.natAbs < 2 ^ 200 := by rcases hs.1 with e | e <;> rw [e] <;> decide
    have b2 : s.2.natAbs < 2 ^ 200 := by rcases hs.2 with e | e | e <;> rw [e] <;> decide
    have one : Bn (sh2D s) 1 2 := Bn.two (n := 0) (Bn.int b1) (Bn.int b2)
    exact (BnA.cons one t).mono (Nat.le_refl _) (by rw [List.length_cons]; omega)
theorem shw_pair {ss : List (Int × Int)} {d : PyData} (oks : ∀ s ∈ ss, Sh2Ok s) (sl : ss.length ≤ 310) (bn : Bn d 8 2500) : Shw (.list [.list (ss.map sh2D), d]) :=
  ((BnA.cons (((BnA.shows oks).mono (m' := 930) (Nat.le_refl _) (by omega)).lst.mono (n' := 8) (by decide) (Nat.le_refl _)) (BnA.cons bn .nil0)).lst).shw (by decide) (by decide)
end Ct
namespace Ct
open PySem PySem.Spec PyProof.Rows L2
theorem bn_pw {z : Int} {ms : List Int} (hz : z.natAbs < 2 ^ 200) (hm : ∀ m ∈ ms, m.natAbs < 2 ^ 200) (ml : ms.length ≤ 7) : Bn (Part.wheel z ms).data 2 16 := by
  have w : Bn (.str "wheel") 1 5 := bn_by (by decide +kernel)
  exact ((BnA.cons w (BnA.cons (Bn.int (i := z) (n := 1) (m := 0) hz) (BnA.cons ((BnA.ints (n := 0) (m := 7) hm ml).tup) .nil0))).mono (m' := 16) (Nat.le_refl _) (by decide)).tup
theorem bn_ps {z : Int} (hz : z.natAbs < 2 ^ 200) : Bn (Part.spring z).data 2 16 := by
  have w : Bn (.str "spring") 1 6 := bn_by (by decide +kernel)
  exact ((BnA.cons w (BnA.cons (Bn.int (i := z) (n := 1) (m := 0) hz) .nil0)).mono (m' := 16) (Nat.le_refl _) (by decide)).tup
theorem BnA.parts : ∀ {ps : List Part}, (∀ p ∈ ps, Bn p.data 2 16) → BnA (ps.map Part.data) 2 (17 * ps.length)
  | [], _ => .nil
  | p :: r, h => (BnA.cons (h p List.mem_cons_self) (BnA.parts fun q hq => h q (List.mem_cons_of_mem _ hq))).mono (Nat.le_refl _) (by rw [List.length_cons]; omega)
theorem shw_three {ps : List Part} {ss : List (Int × Int)} {d : PyData} (hp : ∀ p ∈ ps, Bn p.data 2 16) (pl : ps.length ≤ 4) (oks : ∀ s ∈ ss, Sh2Ok s) (sl : ss.length ≤ 310) (bn : Bn d 8 2500) : Shw (.list [.list (ps.map Part.data), .list (ss.map sh2D), d]) :=
  ((BnA.cons (((BnA.parts hp).mono (m' := 70) (Nat.le_refl _) (by omega)).lst.mono (n' := 8) (by decide) (Nat.le_refl _)) (BnA.cons (((BnA.shows oks).mono (m' := 930) (Nat.le_refl _) (by omega)).lst.mono (n' := 8) (by decide) (Nat.le_refl _)) (BnA.cons bn .nil0))).lst).shw (by decide) (by decide)
end Ct

/-! d.setdefault(k, v), called at once -/
namespace Ct
open PySem PySem.Spec PyProof.Rows L2
section
variable {X : Cx}
theorem mt_setd : MtR X "dict.setdefault" rSetd := by
  intro pins s σ H x xs v us Q I rx rv h
  obtain ⟨a, kvs, k, v0, rfl, rfl, ea, hl, w1, w2⟩ := h
  cases rx
  cases rv with
  | cons ry rv =>
    cases rv with
    | cons rd rv =>
      cases rv
      obtain ⟨z, hd, vs0, rel, dd⟩ := dk_of I.hok ea
      have hz : vs0.length ≤ sizeLine := by rw [← rel.length]; exact z
      refine call_meetsIn PySem.F.slot_dict_setdefault dd.typeIs PySem.F.entry_dict_setdefault (PySem.F.args_dict_setdefault_3 _ _ _) (kt_meets_setdefault (mixKind X.prog X.w) _ (kV_is ry) hd _) ⟨vs0, dd, hz, fun u hu => ?_, fun hn h' dd' hs => ?_⟩
      · have rr := rel.val k
        rw [hu] at rr
        cases hv : valV kvs k with
        | none => rw [hv] at rr; exact False.elim rr
        | some x =>
          rw [hv] at rr
          exact (⟨x, H, I.tok _, rr, w1 x hv⟩ : EP X pins σ Q u _)
      · have rr := rel.val k
        rw [hn] at rr
        cases hv : valV kvs k with
        | some x => rw [hv] at rr; exact False.elim rr
        | none =>
          have hl2 : (putK kvs k v0).length ≤ sizeLine := by have := length_putK kvs k v0; omega
          exact (⟨v0, _, d_write (t' := s.toks + 1) I (by rw [ea]; exact True.intro) hs (let ⟨q, _, _, hq, _⟩ := dd'; ⟨q, hq⟩) (dk_new hl2 hd (rel.put k rd) dd'), rd, w2 hv⟩ : EP X pins σ Q _ _)
end
end Ct

/-! a dict whose keys are whole numbers or None, its values whole numbers of which Pr speaks -/
namespace Ct
open PySem PySem.Spec PyProof.Rows L2
def oIs : Option Int → Value → Bool
  | none, .none => true
  | some i, .int j _ => decide (i = j)
  | _, _ => false
theorem oIs_shape {k : Option Int} {v : Value} (h : oIs k v = true) : (k = none ∧ v = .none) ∨ ∃ i t, k = some i ∧ v = .int i t := by
  unfold oIs at h
  split at h
  · exact .inl ⟨rfl, rfl⟩
  · rename_i i j t
    have := of_decide_eq_true h
    subst this
    exact .inr ⟨_, _, rfl, rfl⟩
  · cases h
def optKind (prog : Program) (w : World) : PySem.KeyKind prog w (Option Int) where
  is := oIs
  hash := fun k => match k with
    | none => reduceHash 0xFCA86420
    | some i => hashInt i
  inj := fun v a b ha hb => by
    rcases oIs_shape ha with ⟨rfl, rfl⟩ | ⟨i, t, rfl, rfl⟩ <;> rcases oIs_shape hb with ⟨rfl, e⟩ | ⟨j, u, rfl, e⟩
    · rfl
    · cases e
    · cases e
    · cases e; rfl
  byValue := fun k v h => by rcases oIs_shape h with ⟨rfl, rfl⟩ | ⟨i, t, rfl, rfl⟩ <;> rfl
  pyHash := fun hv h => by
    rcases oIs_shape hv with ⟨rfl, rfl⟩ | ⟨i, t, rfl, rfl⟩
    · exact PySem.W.pyHash_slot (T := "NoneType") rfl F.slot_NoneType_hash F.entry_NoneType_hash (F.args_NoneType_hash_1 _) (beq_builtin_none _) (.inl rfl) (wpAny_bind (wpAny_pure (wpAny_bind (wpAny_mkInt (wpAny_pure ⟨_, _, rfl, h⟩)))))
    · exact wpAny_pyHash_int h
  eqBool := fun hu hv h => by
    rcases oIs_shape hu with ⟨rfl, rfl⟩ | ⟨i, t, rfl, rfl⟩ <;> rcases oIs_shape hv with ⟨rfl, rfl⟩ | ⟨j, u, rfl, rfl⟩
    · exact SeqAt.EqAt.same _ _ _ _ _ (by rw [decide_eq_true rfl] at h; exact h)
    · exact SeqAt.EqAt.none_int j u _ _ _ _ (by rw [decide_eq_false (fun z => nomatch z)] at h; exact h)
    · exact SeqAt.EqAt.int_none i t _ _ _ _ (by rw [decide_eq_false (fun z => nomatch z)] at h; exact h)
    · exact wpAny_eqBool_int (by rw [show decide (some i = some j) = decide (i = j) from decide_eq_decide.mpr ⟨fun z => Option.some.inj z, fun z => by rw [z]⟩] at h; exact h)
  «strs» := fun k x t v h => by rcases oIs_shape h with ⟨_, e⟩ | ⟨_, _, _, e⟩ <;> cases e
def OdP (P : Program) (w : World) (a : Addr) (n : Nat) (Pr : Option Int → Int → Prop) (h : Heap) : Prop := (a == sysModules) = false ∧ ∃ vs : List (Option Int × Value), vs.length ≤ n ∧ (∀ k v, (k, v) ∈ vs → ∃ i t, v = Value.int i t ∧ Pr k i) ∧ h.DictOf (optKind P w) a vs
def OdO (P : Program) (w : World) (a : Addr) (n : Nat) (Pr : Option Int → Int → Prop) : HO := .ext (OdP P w a n Pr)
theorem odO_ok {P : Program} {w : World} {H : Hp} {h : Heap} {a : Addr} {n : Nat} {Pr : Option Int → Int → Prop} (z : OdP P w a n Pr h) : ObjOk P w H h a (OdO P w a n Pr) := by
  refine ⟨z, ?_, fun h1 h2 g keep => ?_⟩
  · obtain ⟨_, vs, _, _, o, es, ep, h1, _⟩ := z
    exact ⟨o, h1⟩
  · obtain ⟨g0, vs, g1, g2, o, es, ep, e1, e2⟩ := g
    exact ⟨g0, vs, g1, g2, o, es, ep, keep o e1, e2⟩
theorem mem_stored {k k' : Option Int} {v v' : Value} {vs : List (Option Int × Value)} (hn : valueAt vs k = none) (h : (k', v') ∈ stored vs k v) : (k', v') ∈ vs ∨ (k' = k ∧ v' = v) := by
  have no : vs.any (fun kv => decide (kv.1 = k)) = false := by
    rw [List.any_eq_false]
    intro p hp z
    unfold valueAt at hn
    rw [Option.map_eq_none_iff, List.find?_eq_none] at hn
    exact hn p hp z
  unfold stored at h
  rw [if_neg (by rw [no]; exact Bool.false_ne_true)] at h
  rcases List.mem_append.mp h with h | h
  · exact .inl h
  · cases List.mem_singleton.mp h
    exact .inr ⟨rfl, rfl⟩
theorem stored_len {k : Option Int} {v : Value} {vs : List (Option Int × Value)} : (stored vs k v).length ≤ vs.length + 1 := by
  unfold stored
  split
  · rw [List.length_map]; omega
  · rw [List.length_append]; exact Nat.le_refl _
def oV : Option Int → V
  | none => .non
  | some i => .int i
/-- d.setdefault(k, i): what it tells is i, or one of which Pr speaks -/
def rSetO (P : Program) (w : World) : V → List V → Hp → VK → Prop := fun x vs H Q => ∃ (a : Addr) (n : Nat) (Pr Pr' : Option Int → Int → Prop) (k : Option Int) (i : Int), x = .ref a ∧ vs = [oV k, .int i] ∧ H a = some (OdO P w a n Pr) ∧ n < sizeLine ∧
  (∀ k j, Pr k j → Pr' k j) ∧ Pr' k i ∧ ∀ j, (Pr k j ∨ j = i) → Q (.int j) (upd H a (OdO P w a (n + 1) Pr'))
def tBMO (r : V → List V → Hp → VK → Prop) (P : Program) (w : World) (to : TE) (t : TA) : TE := fun σ H Q => to σ H fun x H1 => (∃ a n Pr, x = .ref a ∧ H1 a = some (OdO P w a n Pr)) ∧ t σ H1 fun xs H2 => r x xs H2 Q
section
variable {X : Cx}
theorem mt_setO : MtR X "dict.setdefault" (rSetO X.prog X.w) := by
  rintro pins s σ H x xs v us Q I rx rv ⟨a, n, Pr, Pr', k, i, rfl, rfl, ea, hn, imp, own, q⟩
  cases rx
  obtain ⟨u, u2, rfl, r1, r2⟩ := Vals.two rv
  obtain ⟨t, rfl⟩ := r2
  obtain ⟨⟨sys, vs, vl, pr, dd⟩, _⟩ := I.hok a _ ea
  have key : (optKind X.prog X.w).is k u = true := by
    cases k with
    | none =>
      cases (show u = Value.none from r1)
      rfl
    | some j =>
      obtain ⟨t2, rfl⟩ := (show ∃ t, u = Value.int j t from r1)
      exact decide_eq_true rfl
  have mu : Mut (H a) := by rw [ea]; exact True.intro
  refine call_meetsIn PySem.F.slot_dict_setdefault dd.typeIs PySem.F.entry_dict_setdefault (PySem.F.args_dict_setdefault_3 _ _ _) (kt_meets_setdefault (optKind X.prog X.w) _ key sys _) ⟨vs, dd, by omega, fun u hu => ?_, fun hno h' dd' hs => ?_⟩
  · have hm : (k, u) ∈ vs := by
      unfold valueAt at hu
      obtain ⟨p, hp, e⟩ := Option.map_eq_some_iff.mp hu
      have h1 := List.mem_of_find?_eq_some hp
      have h2 : p.1 = k := by simpa using List.find?_some hp
      rw [← e, ← h2]
      exact h1
    obtain ⟨j, tj, rfl, pj⟩ := pr k _ hm
    obtain ⟨o, es, ep, e1, e2⟩ := id dd
    exact ⟨.int j, _, d_write (h' := s.heap) (t' := s.toks + 1) I mu ⟨rfl, fun _ _ => rfl⟩ ⟨o, e1⟩ (odO_ok ⟨sys, vs, by omega, fun k' v' h => (by obtain ⟨i', t', e, p⟩ := pr k' v' h; exact ⟨i', t', e, imp _ _ p⟩), dd⟩), ⟨tj, rfl⟩, q j (.inl pj)⟩
  · obtain ⟨o, es, ep, e1, e2⟩ := id dd'
    refine ⟨.int i, _, d_write (t' := s.toks + 1) I mu hs ⟨o, e1⟩ (odO_ok ⟨sys, _, Nat.le_trans stored_len (by omega), fun k' v' h => ?_, dd'⟩), ⟨t, rfl⟩, q i (.inr rfl)⟩
    rcases mem_stored hno h with h | ⟨rfl, rfl⟩
    · obtain ⟨i', t', e, p⟩ := pr k' v' h
      exact ⟨i', t', e, imp _ _ p⟩
    · exact ⟨i, t, rfl, own⟩
variable {o e : Expr} {es : List Expr} {to : TE} {t : TA} {name : Str} {apos cpos : Pos} {id : String} {r : V → List V → Hp → VK → Prop}
theorem pe_bmO {P0 : Program} {w0 : World} (hP : X.prog = P0) (hw : X.w = w0) (pa : PlainAttrs "dict") (slot : Slot "dict" name id) (hty : typeOf (.builtin id) = pure (.type "method_descriptor")) (hm : MtR X id r) (ho : PE X o to) (ha : PA X (e :: es) t)
    (hbase : attributeBase o name X.env (eval o X.env) = eval o X.env := by rfl)
    (hfew : ((backTo cpos (starEach (e :: es) X.env)).all (fun x => !x.1) && (backToKw cpos (keywordEach [] X.env)).all (fun x => x.1.isSome)
      && decide ((e :: es).length + ([] : List Keyword).length + (if ([] : List Keyword).isEmpty then 0 else 1) < 30)) = true := by rfl)
    (hline : (apos.endLine == cpos.line) = true := by rfl) (hs : starEach (e :: es) X.env = (false, eval e X.env) :: starEach es X.env := by rfl) (hplain : (backTo cpos (starEach es X.env)).any (·.1) = false := by rfl) :
    PE X (.Call (.Attribute o name apos) (e :: es) [] cpos) (tBMO r P0 w0 to t) := by
  subst hP hw
  refine ⟨fun pins s σ H Q I h => ?_⟩
  refine wpAny_Call_method_late hbase hfew hline rfl (thn (ho.run pins s σ H _ I h) fun v s1 ⟨x, H1, I1, r1, ⟨a, n, Pr, ex, ea⟩, q1⟩ => ?_)
  subst ex
  cases r1
  obtain ⟨⟨_, vs, _, _, ob, es', ep, e1, e2, _⟩, _⟩ := I1.hok a _ ea
  refine ⟨"dict", id, pa, slot, hty, ⟨ob, e1, e2.1⟩, fun b eb => ?_, ?_⟩
  · cases eb
    exact ⟨ob, e1, e2.2.1⟩
  have hA := ha.run cpos pins s1 σ H1 _ I1 q1
  rw [hs] at hA ⊢
  refine Calls.callWith_builtin (by show (false || (backTo cpos (starEach es X.env)).any (·.1)) = false; rw [hplain] <;> rfl) (Calls.evalArgs_plain ?_)
  exact thn hA fun us s2 ⟨vs, H2, I2, r2, q2⟩ => hm pins s2 σ H2 (.ref a) vs (.ref a) us Q I2 rfl r2 q2
def tOdNew (P : Program) (w : World) : TE := fun _ H Q => ∀ p, H p = none → Q (.ref p) (upd H p (OdO P w p 0 fun _ _ => False))
theorem pe_dnewO {pos : Pos} {P0 : Program} {w0 : World} (hP : X.prog = P0) (hw : X.w = w0) : PE X (.Dict [] [] pos) (tOdNew P0 w0) := by
  subst hP hw
  constructor
  intro pins s σ H Q J h
  have big := J.big
  refine wpAny_Dict_empty ⟨.ref s.heap.objs.size, _, J.laid (a := s.heap.objs.size) (o := OdO X.prog X.w s.heap.objs.size 0 fun _ _ => False) (t' := s.toks) (fun _ _ q => Heap.get?_push_of_some _ q) (Nat.le_refl _) (odO_ok ⟨beq_eq_false_iff_ne.mpr (Ne.symm (Nat.ne_of_lt big)), [], Nat.le_refl _, fun _ _ h => (nomatch h), Heap.DictOf.new s.heap⟩), rfl, h _ (J.hok.fresh (Nat.le_refl _))⟩
end
section
variable {P : Program} {w : World} {H : Hp} {σ : L2.St} {Q : VK}
theorem w_odnew (h : ∀ p, H p = none → Q (.ref p) (upd H p (OdO P w p 0 fun _ _ => False))) : tOdNew P w σ H Q := h
theorem w_bmO {r : V → List V → Hp → VK → Prop} {to : TE} {t : TA} (h : to σ H fun x H1 => (∃ a n Pr, x = .ref a ∧ H1 a = some (OdO P w a n Pr)) ∧ t σ H1 fun xs H2 => r x xs H2 Q) : tBMO r P w to t σ H Q := h
end
end Ct

/-! an expression beside a list that it does not know of -/
namespace Ct
open PySem PySem.Spec PyProof.Rows L2
def delH (H : Hp) (A : Addr) : Hp := fun b => if b = A then none else H b
theorem delH_at {H : Hp} {A : Addr} : delH H A A = none := if_pos rfl
theorem delH_ne {H : Hp} {A b : Addr} (h : b ≠ A) : delH H A b = H b := if_neg h
theorem delH_some {H : Hp} {A b : Addr} {o : HO} (h : delH H A b = some o) : b ≠ A ∧ H b = some o := by
  by_cases e : b = A
  · rw [e, delH_at] at h
    cases h
  · rw [delH_ne e] at h
    exact ⟨e, h⟩
theorem delH_same {H : Hp} {A : Addr} : Same (delH H A) H := fun _ _ h => (delH_some h).2
theorem delH_upd {H : Hp} {A : Addr} {o : HO} (h : H A = none) : delH (upd H A o) A = H := funext fun b => by
  by_cases e : b = A
  · rw [e, delH_at, h]
  · rw [delH_ne e, upd_ne e]
section
variable {P : Program} {w : World} {H : Hp} {h : Heap} {a A : Addr}
theorem objOk_del {ws : List V} {o : HO} (hA : H A = some (.lst ws)) (x : ObjOk P w H h a o) : ObjOk P w (delH H A) h a o :=
  x.stay (fun _ _ _ e => e) (fun b e => by rw [delH_ne fun z => by rw [z, hA] at e; cases e]; exact e) fun b xs e => by rw [delH_ne fun z => by rw [z, hA] at e; cases e]; exact e
theorem objOk_add {ws : List V} {o : HO} (hA : H A = none) (x : ObjOk P w H h a o) : ObjOk P w (upd H A (.lst ws)) h a o :=
  x.stay (fun _ _ _ e => e) (fun b e => by rw [upd_ne fun z => by rw [z, hA] at e; cases e]; exact e) fun b xs e => by rw [upd_ne fun z => by rw [z, hA] at e; cases e]; exact e
end
def tFrame (t : TE) : TE := fun σ H Q => ∃ (A : Addr) (ws : List V), H A = some (.lst ws) ∧ t σ (delH H A) fun v H' => H' A = none → Q v (upd H' A (.lst ws))
theorem pe_frame {X : Cx} {e : Expr} {t : TE} (he : PE X e t) : PE X e (tFrame t) := by
  constructor
  rintro pins s σ H Q I ⟨A, ws, hA, ht⟩
  obtain ⟨len, its, n, rv, hob⟩ := I.hok A _ hA
  have ne : ∀ {b : Addr}, H b = none → b ≠ A := fun hb z => by
    rw [z, hA] at hb
    cases hb
  have noA : ∀ o, X.s_0.heap.get? A = some o → X.H_0 A = none → A ∈ X.ex := fun o h1 h2 => by
    by_cases z : A ∈ X.ex
    · exact z
    · have := I.base.free A o h1 h2 z
      rw [hA] at this
      cases this
  have nfs : A ∉ X.fs := fun z => by
    obtain ⟨_, o, ho, _⟩ := I.ok.funs.mem z
    have := I.base.free A o ho (I.ok.frf A z) fun y => I.ok.exfs A y z
    rw [hA] at this
    cases this
  have J : Inv X ((A, { cls := .type "list", data := .seq its.toArray n }) :: pins) σ (delH H A) s := by
    refine ⟨I.ok, I.os, I.bare, ⟨I.base.keep, I.base.slot, fun b o h1 h2 h3 => ?_, I.base.there, fun b xs h1 => ?_, fun b o u h1 => ?_, fun b ps h1 => ?_⟩, I.loc, I.cell, ?_, fun x c h1 => ?_, fun p hp => ?_, fun b o h1 => ?_, I.len⟩
    · have := I.base.free b o h1 h2 h3
      rw [delH_ne (ne this)]
      exact this
    · have := I.base.tups b xs h1
      rw [delH_ne fun z => by rw [z, hA] at this; cases this]
      exact this
    · have := I.base.frzs b o u h1
      rw [delH_ne fun z => by rw [z, hA] at this; cases this]
      exact this
    · obtain ⟨more, this⟩ := I.base.tbls b ps h1
      exact ⟨more, by rw [delH_ne fun z => by rw [z, hA] at this; cases this]; exact this⟩
    · rw [delH_ne (ne I.free)]
      exact I.free
    · rw [delH_ne (ne (I.freeC x c h1))]
      exact I.freeC x c h1
    · rcases List.mem_append.mp hp with hp | hp
      · obtain ⟨p1, p2, p3⟩ := I.pin p (List.mem_append_left _ hp)
        exact ⟨p1, by rw [delH_ne (ne p2)]; exact p2, p3⟩
      · rcases List.mem_cons.mp hp with rfl | hp
        · exact ⟨hob, delH_at, (ne I.free).symm, nfs, fun v z => nomatch z⟩
        · obtain ⟨p1, p2, p3⟩ := I.pin p (List.mem_append_right _ hp)
          exact ⟨p1, by rw [delH_ne (ne p2)]; exact p2, p3⟩
    · exact objOk_del hA (I.hok b o (delH_some h1).2)
  refine thn (he.run _ s σ _ _ J ht) fun v s1 ⟨x, H1, J1, r1, q1⟩ => ?_
  obtain ⟨p1, p2, _⟩ := J1.pin (A, { cls := .type "list", data := .seq its.toArray n }) (List.mem_append_right _ List.mem_cons_self)
  have ne1 : ∀ {b : Addr} {o : HO}, H1 b = some o → b ≠ A := fun hb z => by
    rw [z, p2] at hb
    cases hb
  refine ⟨x, upd H1 A (.lst ws), ?_, r1, q1 p2⟩
  refine ⟨J1.ok, J1.os, J1.bare, ⟨J1.base.keep, J1.base.slot, fun b o h1 h2 h3 => ?_, J1.base.there, fun b xs h1 => ?_, fun b o u h1 => ?_, fun b ps h1 => ?_⟩, J1.loc, J1.cell, ?_, fun x c h1 => ?_, fun p hp => ?_, fun b o h1 => ?_, J1.len⟩
  · rw [upd_ne fun z => by rw [z] at h1 h2 h3; exact h3 (noA o h1 h2)]
    exact J1.base.free b o h1 h2 h3
  · have := J1.base.tups b xs h1
    rw [upd_ne (ne1 this)]
    exact this
  · have := J1.base.frzs b o u h1
    rw [upd_ne (ne1 this)]
    exact this
  · obtain ⟨more, this⟩ := J1.base.tbls b ps h1
    exact ⟨more, by rw [upd_ne (ne1 this)]; exact this⟩
  · rw [upd_ne (ne I.free)]
    exact J1.free
  · rw [upd_ne (ne (I.freeC x c h1))]
    exact J1.freeC x c h1
  · have p0 := I.pin p hp
    have p4 := J1.pin p (by
      rcases List.mem_append.mp hp with h | h
      · exact List.mem_append_left _ h
      · exact List.mem_append_right _ (List.mem_cons_of_mem _ h))
    exact ⟨p4.1, by rw [upd_ne (ne p0.2.1)]; exact p4.2.1, p4.2.2⟩
  · by_cases z : b = A
    · subst z
      rw [upd_same] at h1
      cases h1
      exact ⟨len, its, n, rv, p1⟩
    · rw [upd_ne z] at h1
      exact objOk_add p2 (J1.hok b o h1)
section
variable {σ : L2.St} {H : Hp} {Q : VK} {t : TE}
theorem w_frame {A : Addr} {ws : List V} (hA : H A = some (.lst ws)) (h : t σ (delH H A) fun v H' => H' A = none → Q v (upd H' A (.lst ws))) : tFrame t σ H Q := ⟨A, ws, hA, h⟩
end
end Ct

local macro_rules | `(tactic| walk_at "ct") => `(tactic| repeat (first
  | with_reducible refine Ct.w_seq ?_ | with_reducible refine Ct.w_gen ?_ | with_reducible refine Ct.w_asg ?_ | with_reducible refine Ct.w_ret ?_ | with_reducible refine Ct.w_ifS ?_ | with_reducible refine Ct.w_drop ?_ | with_reducible refine Ct.w_next ?_
  | with_reducible refine Ct.w_op ?_ | with_reducible refine Ct.w_c ?_ | with_reducible refine Ct.w_chain ?_ | with_reducible refine Ct.w_un ?_ | with_reducible refine Ct.w_test ?_ | with_reducible refine Ct.w_B ?_ | with_reducible refine Ct.w_and ?_ | with_reducible refine Ct.w_or ?_ | with_reducible refine Ct.w_not ?_ | with_reducible refine Ct.w_if ?_
  | with_reducible refine Ct.w_andV ?_ | with_reducible refine Ct.w_orV ?_ | with_reducible refine Ct.w_notV ?_
  | with_reducible refine Ct.w_nil ?_ | with_reducible refine Ct.w_cons ?_ | with_reducible refine Ct.w_cb ?_ | with_reducible refine Ct.w_call ?_ | with_reducible refine Ct.w_tup ?_ | with_reducible refine Ct.w_lst ?_ | with_reducible refine Ct.w_bm ?_
  | with_reducible refine Ct.w_for ?_ | with_reducible refine Ct.w_rng1 ?_ | with_reducible refine Ct.w_rng2 ?_ | with_reducible refine Ct.w_ilist ?_ | with_reducible refine Ct.w_itup ?_ | with_reducible refine Ct.w_im ?_ | with_reducible refine Ct.w_enum ?_ | with_reducible refine Ct.w_irev ?_ | with_reducible refine Ct.w_dcT ?_ | with_reducible refine Ct.w_bm0 ?_ | with_reducible refine Ct.w_dnewT ?_ | with_reducible refine Ct.w_dnotin ?_ | with_reducible refine Ct.w_dget ?_ | with_reducible refine Ct.w_dput ?_ | with_reducible refine Ct.w_lc ?_ | with_reducible refine Ct.w_lc2 ?_ | with_reducible refine Ct.w_star ?_ | with_reducible refine Ct.w_revL ?_ | with_reducible refine Ct.w_yes ?_
  | with_reducible refine Ct.w_gcons ?_ | with_reducible refine Ct.w_gnil ?_ | with_reducible refine Ct.w_gsub ?_ | with_reducible refine Ct.w_sl ?_ | with_reducible refine Ct.w_nopart ?_ | with_reducible refine Ct.w_part ?_
  | with_reducible refine Ct.w_rI0 ?_ | with_reducible refine Ct.w_rU ?_ | with_reducible refine Ct.w_rEqI ?_ | with_reducible refine Ct.w_rNeI ?_ | with_reducible refine Ct.w_ipI ?_ | with_reducible refine Ct.w_bl ?_ | with_reducible refine Ct.w_in ?_ | with_reducible refine Ct.w_break ?_ | with_reducible refine Ct.w_cont ?_ | with_reducible refine Ct.w_nT ?_ | with_reducible refine Ct.w_nF ?_ | with_reducible refine L2.iteT ?_ | with_reducible refine L2.iteF ?_
  | ((with_reducible refine Ct.w_rEqS (b := true) ?ceq ?_); (case ceq => decide +kernel)) | ((with_reducible refine Ct.w_rEqS (b := false) ?ceq ?_); (case ceq => decide +kernel))
  | with_reducible refine Ct.w_var rfl ?_
  | ((with_reducible refine' Ct.w_ixT ?cas ?cix ?_); (case cas => assumption); (case cix => first | exact Ct.at0 | exact Ct.at1 | exact Ct.at2 | exact rfl))
  | ((with_reducible refine' Ct.w_name ?cnm ?_); (case cnm => simp only [L2.wipe, List.map, List.set_cons_zero, List.set_cons_succ]; exact rfl)) ))
local macro_rules | `(tactic| walk_at "cq") => `(tactic| repeat (first
  | with_reducible refine Ct.w_gen ?_ | with_reducible refine Ct.w_asg ?_ | with_reducible refine Ct.w_ret ?_ | with_reducible refine Ct.w_ifS ?_ | with_reducible refine Ct.w_drop ?_ | with_reducible refine Ct.w_next ?_
  | with_reducible refine Ct.w_op ?_ | with_reducible refine Ct.w_c ?_ | with_reducible refine Ct.w_chain ?_ | with_reducible refine Ct.w_un ?_ | with_reducible refine Ct.w_test ?_ | with_reducible refine Ct.w_B ?_ | with_reducible refine Ct.w_and ?_ | with_reducible refine Ct.w_or ?_ | with_reducible refine Ct.w_not ?_ | with_reducible refine Ct.w_if ?_
  | with_reducible refine Ct.w_andV ?_ | with_reducible refine Ct.w_orV ?_ | with_reducible refine Ct.w_notV ?_
  | with_reducible refine Ct.w_nil ?_ | with_reducible refine Ct.w_cons ?_ | with_reducible refine Ct.w_cb ?_ | with_reducible refine Ct.w_call ?_ | with_reducible refine Ct.w_tup ?_ | with_reducible refine Ct.w_lst ?_ | with_reducible refine Ct.w_bm ?_
  | with_reducible refine Ct.w_for ?_ | with_reducible refine Ct.w_rng1 ?_ | with_reducible refine Ct.w_rng2 ?_ | with_reducible refine Ct.w_ilist ?_ | with_reducible refine Ct.w_itup ?_ | with_reducible refine Ct.w_im ?_ | with_reducible refine Ct.w_enum ?_ | with_reducible refine Ct.w_irev ?_ | with_reducible refine Ct.w_dcT ?_ | with_reducible refine Ct.w_bm0 ?_ | with_reducible refine Ct.w_dnewT ?_ | with_reducible refine Ct.w_dnotin ?_ | with_reducible refine Ct.w_dget ?_ | with_reducible refine Ct.w_dput ?_ | with_reducible refine Ct.w_lc ?_ | with_reducible refine Ct.w_lc2 ?_ | with_reducible refine Ct.w_star ?_ | with_reducible refine Ct.w_revL ?_ | with_reducible refine Ct.w_yes ?_
  | with_reducible refine Ct.w_gcons ?_ | with_reducible refine Ct.w_gnil ?_ | with_reducible refine Ct.w_gsub ?_ | with_reducible refine Ct.w_sl ?_ | with_reducible refine Ct.w_nopart ?_ | with_reducible refine Ct.w_part ?_
  | with_reducible refine Ct.w_rI0 ?_ | with_reducible refine Ct.w_rU ?_ | with_reducible refine Ct.w_rEqI ?_ | with_reducible refine Ct.w_rNeI ?_ | with_reducible refine Ct.w_ipI ?_ | with_reducible refine Ct.w_bl ?_ | with_reducible refine Ct.w_in ?_ | with_reducible refine Ct.w_break ?_ | with_reducible refine Ct.w_cont ?_ | with_reducible refine Ct.w_nT ?_ | with_reducible refine Ct.w_nF ?_ | with_reducible refine L2.iteT ?_ | with_reducible refine L2.iteF ?_
  | ((with_reducible refine Ct.w_rEqS (b := true) ?ceq ?_); (case ceq => decide +kernel)) | ((with_reducible refine Ct.w_rEqS (b := false) ?ceq ?_); (case ceq => decide +kernel))
  | with_reducible refine Ct.w_var rfl ?_
  | ((with_reducible refine' Ct.w_ixT ?cas ?cix ?_); (case cas => assumption); (case cix => first | exact Ct.at0 | exact Ct.at1 | exact Ct.at2 | exact rfl))
  | ((with_reducible refine' Ct.w_name ?cnm ?_); (case cnm => simp only [L2.wipe, List.map, List.set_cons_zero, List.set_cons_succ]; exact rfl)) ))

local macro_rules | `(tactic| walk_at "gv") => `(tactic| repeat (first
  | with_reducible exact Ct.gv_nil | with_reducible refine Ct.gv_cons ?_ ?_ | with_reducible exact Ct.gv_int | with_reducible exact Ct.gv_str | with_reducible exact Ct.gv_bl | with_reducible exact Ct.gv_non
  | with_reducible refine Ct.GvT.gv (Ct.gvT_tup ?_) | with_reducible refine Ct.GvL.gv (Ct.gvL_lst ?_) | with_reducible refine Ct.gvL_lst ?_ | with_reducible refine Ct.gvT_tup ?_ | exact Ct.gv_rI0 rfl | exact Ct.gv_var rfl (.int _) | exact Ct.gv_rI0V rfl rfl | exact Ct.gv_pow ⟨by decide, by decide⟩ rfl))

namespace My
open PySem PySem.Spec PyProof.Rows L2 Ct
def topS (i : Nat) : Stmt := PySem.Challenge.pw_clicktrain_k66_wheels_behind_trains_look.main.body.getD i (.Pass ⟨0, 0, 0, 0⟩)
section
variable {P : Program} {w : World} {K : PySem.W.Frag} {mg : Str → Option Value} {base : Heap}
abbrev S_is_whole : Stmt := topS 7
theorem sc_is_whole : FnScope ["thing"] ["thing"] (defScope S_is_whole) := ⟨rfl, rfl, rfl, by decide +kernel, rfl, by decide +kernel, by decide +kernel⟩
def sp_is_whole (K : PySem.W.Frag) : Sp := fun vs H Q _ => ∃ (v : V) (d : PyData), vs = [v] ∧ Dp K H v d ∧ Q (.bl (isW d)) H
theorem ok_is_whole {f : Addr} {fd : FuncData} (F : Fun K "is_whole" "is_whole" S_is_whole f fd) (m_isinstance : mg "isinstance" = none) (m_int : mg "int" = none) (m_bool : mg "bool" = none) :
    FnOk P w K mg base CX0 1 f fd ["thing"] (sp_is_whole K) := by
  refine F.ok sc_is_whole (fun vs H Q E h => ?_) (fun cdv A outer s H vs Q E hr h => ?_)
  ·
    obtain ⟨v, d, rfl, _⟩ := h
    rfl
  ·
    obtain ⟨v, d, rfl, hd, q⟩ := h
    refine ⟨_, (pss_one (ps_ret (pe_and (pe_callB (r := rIsi K) call_isi (by rfl) m_isinstance (by decide +kernel) (pa_cons (pv 0) (pa_cons (pe_bltn (v := .ty "int") (u := .type "int") (by rfl) m_int (by decide +kernel) rfl) pa_nil))) (pe_one (pe_not (pe_callB (r := rIsi K) call_isi (by rfl) m_isinstance (by decide +kernel) (pa_cons (pv 0) (pa_cons (pe_bltn (v := .ty "bool") (u := .type "bool") (by rfl) m_bool (by decide +kernel) rfl) pa_nil)))))))), ?_⟩
    refine w_st (σ' := [some v]) rfl ?_
    walk_at "ct"
    cases hd with
    | non =>
      refine w_isi (b := false) (.base .non) (kit_ty (by decide +kernel)) ?_
      walk_at "ct"
      exact q
    | bl b =>
      refine w_isi (b := true) (.base (.bl b)) (kit_ty (by decide +kernel)) ?_
      walk_at "ct"
      refine w_isi (b := true) (.base (.bl b)) (kit_ty (by decide +kernel)) ?_
      walk_at "ct"
      exact q
    | int i =>
      refine w_isi (b := true) (.base (.int i)) (kit_ty (by decide +kernel)) ?_
      walk_at "ct"
      refine w_isi (b := false) (.base (.int i)) (kit_ty (by decide +kernel)) ?_
      walk_at "ct"
      exact q
    | str x =>
      refine w_isi (b := false) (.base (.str x)) (kit_ty (by decide +kernel)) ?_
      walk_at "ct"
      exact q
    | lst hs ht =>
      refine w_isi (b := false) (tyx_L hs) (kit_ty (by decide +kernel)) ?_
      walk_at "ct"
      exact q
    | tup hs ht =>
      refine w_isi (b := false) (tyx_T hs) (kit_ty (by decide +kernel)) ?_
      walk_at "ct"
      exact q
abbrev S_are_marks : Stmt := topS 8
theorem sc_are_marks : FnScope ["thing", "teeth", "last", "mark"] ["thing", "teeth"] (defScope S_are_marks) := ⟨rfl, rfl, rfl, by decide +kernel, rfl, by decide +kernel, by decide +kernel⟩
def sp_are_marks (K : PySem.W.Frag) : Sp := fun vs H Q _ => ∃ (v : V) (d : PyData) (z : Int), vs = [v, .int z] ∧ Dp K H v d ∧ Q (.bl (areM d z)) H
theorem ok_are_marks {f : Addr} {fd : FuncData} {f_is_whole : Addr} {fd_is_whole : FuncData} (F : Fun K "are_marks" "are_marks" S_are_marks f fd)
    (F_is_whole : Fun K "is_whole" "is_whole" S_is_whole f_is_whole fd_is_whole) (b_is_whole : Binds K fd_is_whole ["thing"] []) (g_is_whole : mg "is_whole" = some (.ref f_is_whole)) (G_is_whole : FnOk P w K mg base CX0 1 f_is_whole fd_is_whole ["thing"] (sp_is_whole K)) (m_isinstance : mg "isinstance" = none) (m_tuple : mg "tuple" = none) :
    FnOk P w K mg base CX0 2 f fd ["thing", "teeth"] (sp_are_marks K) := by
  refine F.ok sc_are_marks (fun vs H Q E h => ?_) (fun cdv A outer s H vs Q E hr h => ?_)
  ·
    obtain ⟨v, d, z, rfl, _⟩ := h
    rfl
  ·
    obtain ⟨v, d, z, rfl, hd, q⟩ := h
    refine ⟨_, (pss_cons (ps_if (pt_not (pt_val (pe_callB (r := rIsi K) call_isi (by rfl) m_isinstance (by decide +kernel) (pa_cons (pv 0) (pa_cons (pe_bltn (v := .ty "tuple") (u := .type "tuple") (by rfl) m_tuple (by decide +kernel) rfl) pa_nil))))) (pss_one (ps_ret pe_bl)) pss_nil)
      (pss_cons (ps_set (i := 2) sc_are_marks.nd rfl (.inl rfl) (pe_un un_neg pe_int))
      (pss_cons (ps_for PassesOwn.never rfl (pi_tup (pv 0)) (pg_name (i := 3) sc_are_marks.nd rfl (.inl rfl))
      (pss_cons (ps_if (PW.pt (pw_or (pt_not (pt_val (pe_call G_is_whole (hr.mono (by decide)) (by rfl) g_is_whole F_is_whole.kp b_is_whole .nil pass0 (pa_cons (pv 3) pa_nil)))) (pw_or (pt_cmpR op_le (pv 3) (pv 2) (nomark _)) (pw_or1 (pt_cmpR op_ge (pv 3) (pv 1) (nomark _)))))) (pss_one (ps_ret pe_bl)) pss_nil)
      (pss_one (ps_set (i := 2) sc_are_marks.nd rfl (.inl rfl) (pv 3)))))
      (pss_one (ps_ret pe_bl))))), ?_⟩
    refine w_st (σ' := [some v, some (.int z), none, none]) rfl ?_
    walk_at "ct"
    cases hd with
    | non =>
      refine w_isi (b := false) (.base .non) (kit_ty (by decide +kernel)) ?_
      walk_at "ct"
      exact q
    | bl b =>
      refine w_isi (b := false) (.base (.bl b)) (kit_ty (by decide +kernel)) ?_
      walk_at "ct"
      exact q
    | int i =>
      refine w_isi (b := false) (.base (.int i)) (kit_ty (by decide +kernel)) ?_
      walk_at "ct"
      exact q
    | str x =>
      refine w_isi (b := false) (.base (.str x)) (kit_ty (by decide +kernel)) ?_
      walk_at "ct"
      exact q
    | lst hs ht =>
      refine w_isi (b := false) (tyx_L hs) (kit_ty (by decide +kernel)) ?_
      walk_at "ct"
      exact q
    | @tup a xs ds hs ht =>
      refine w_isi (b := true) (tyx_T hs) (kit_ty (by decide +kernel)) ?_
      walk_at "ct"
      refine w_IT hs ?_
      have hxl := dpAll_len ht
      refine fb_tup xs (fun n σ H' => ∃ (last : Int) (y : Option V), σ = [some (.ref a), some (.int z), some (.int last), y] ∧ H' = H ∧ risesD (-1) z ds = risesD last z (ds.drop n)) ⟨-1, none, rfl, rfl, rfl⟩ ?_ ?_ ?_
      · rintro n σ H' hn ⟨last, y, rfl, rfl, _⟩
        exact hs
      · rintro n x σ H' hx ⟨last, y, rfl, rfl, hr⟩
        have hn : n < xs.length := (List.getElem?_eq_some_iff.mp hx).1
        obtain ⟨e, he⟩ : ∃ e, ds[n]? = some e := ⟨_, List.getElem?_eq_getElem (by omega)⟩
        obtain ⟨x', hx', hde⟩ := dpAll_get ht he
        cases Option.some.inj (hx.symm.trans hx')
        have hdr : ds.drop n = e :: ds.drop (n + 1) := by
          rw [List.drop_eq_getElem_cons (by omega)]
          congr 1
          rw [List.getElem?_eq_getElem (by omega)] at he
          exact Option.some.inj he
        rw [hdr] at hr
        have hq : risesD last z (e :: ds.drop (n + 1)) = false → Q (.bl false) H' := fun z => by
          rw [z] at hr
          rw [show areM (.tuple ds) _ = risesD (-1) _ ds from rfl, hr] at q
          exact q
        walk_at "ct"
        refine ⟨x, e, rfl, hde, ?_⟩
        cases hde with
        | int m =>
          refine w_bl (w_nT ?_)
          walk_at "ct"
          refine w_ite (fun e1 => ?_) (fun e1 => ?_)
          · walk_at "ct"
            exact hq (if_pos (.inl e1))
          · walk_at "ct"
            refine w_ite (fun e2 => ?_) (fun e2 => ?_)
            · walk_at "ct"
              exact hq (if_pos (.inr e2))
            · walk_at "ct"
              exact ⟨m, _, rfl, rfl, hr.trans (if_neg (by omega))⟩
        | non =>
          refine w_bl (w_nF ?_)
          walk_at "ct"
          exact hq rfl
        | bl b =>
          refine w_bl (w_nF ?_)
          walk_at "ct"
          exact hq rfl
        | str s =>
          refine w_bl (w_nF ?_)
          walk_at "ct"
          exact hq rfl
        | lst h1 h2 =>
          refine w_bl (w_nF ?_)
          walk_at "ct"
          exact hq rfl
        | tup h1 h2 =>
          refine w_bl (w_nF ?_)
          walk_at "ct"
          exact hq rfl
      · rintro σ H' ⟨last, y, rfl, rfl, hr⟩
        walk_at "ct"
        rw [show areM (.tuple ds) z = risesD (-1) z ds from rfl, hr, List.drop_of_length_le (by omega)] at q
        exact q
abbrev S_is_part : Stmt := topS 9
theorem sc_is_part : FnScope ["thing"] ["thing"] (defScope S_is_part) := ⟨rfl, rfl, rfl, by decide +kernel, rfl, by decide +kernel, by decide +kernel⟩
def sp_is_part (K : PySem.W.Frag) : Sp := fun vs H Q _ => ∃ (v : V) (d : PyData) (n : Nat), vs = [v] ∧ Dp K H v d ∧ d.canLay0 = true ∧ d.depth ≤ n ∧ n ≤ 60 ∧ ∀ H', Same H H' → Q (.bl (isP d)) H'
theorem ok_is_part {f : Addr} {fd : FuncData} {f_is_whole : Addr} {fd_is_whole : FuncData} {f_are_marks : Addr} {fd_are_marks : FuncData} (F : Fun K "is_part" "is_part" S_is_part f fd)
    (F_is_whole : Fun K "is_whole" "is_whole" S_is_whole f_is_whole fd_is_whole) (b_is_whole : Binds K fd_is_whole ["thing"] []) (g_is_whole : mg "is_whole" = some (.ref f_is_whole)) (G_is_whole : FnOk P w K mg base CX0 1 f_is_whole fd_is_whole ["thing"] (sp_is_whole K))
    (F_are_marks : Fun K "are_marks" "are_marks" S_are_marks f_are_marks fd_are_marks) (b_are_marks : Binds K fd_are_marks ["thing", "teeth"] []) (g_are_marks : mg "are_marks" = some (.ref f_are_marks)) (G_are_marks : FnOk P w K mg base CX0 2 f_are_marks fd_are_marks ["thing", "teeth"] (sp_are_marks K)) (m_isinstance : mg "isinstance" = none) (m_tuple : mg "tuple" = none) (m_len : mg "len" = none) :
    FnOk P w K mg base CX0 3 f fd ["thing"] (sp_is_part K) := by
  refine F.ok sc_is_part (fun vs H Q E h => ?_) (fun cdv A outer s H vs Q E hr h => ?_)
  ·
    obtain ⟨v, d, n, rfl, _⟩ := h
    rfl
  ·
    obtain ⟨v, d, n, rfl, hd, lay, dep, n60, q⟩ := h
    refine ⟨_, (pss_cons (ps_if (PW.pt (pw_or (pt_not (pt_val (pe_callB (r := rIsi K) call_isi (by rfl) m_isinstance (by decide +kernel) (pa_cons (pv 0) (pa_cons (pe_bltn (v := .ty "tuple") (u := .type "tuple") (by rfl) m_tuple (by decide +kernel) rfl) pa_nil))))) (pw_or1 (pt_cmpR op_eq (pe_callB call_len_seq (by rfl) m_len (by decide +kernel) (pa_cons (pv 0) pa_nil)) pe_int (nomark _))))) (pss_one (ps_ret pe_bl)) pss_nil)
      (pss_cons (ps_if (pt_cmpR (r := rEqD K) (op_eqD hr.units) (pe_ix (r := rIxT K) ix_tup (pv 0) pe_int (fun _ _ => rfl)) pe_str (nomark _)) (pss_one (ps_ret (pe_and (pe_cmpR op_eq (pe_callB call_len_seq (by rfl) m_len (by decide +kernel) (pa_cons (pv 0) pa_nil)) pe_int (nomark _)) (pe_and (pe_call G_is_whole (hr.mono (by decide)) (by rfl) g_is_whole F_is_whole.kp b_is_whole .nil pass0 (pa_cons (pe_ix (r := rIxT K) ix_tup (pv 0) pe_int (fun _ _ => rfl)) pa_nil)) (pe_and (pe_cmpR op_ge (pe_ix (r := rIxT K) ix_tup (pv 0) pe_int (fun _ _ => rfl)) pe_int (nomark _)) (pe_one (pe_call G_are_marks (hr.mono (by decide)) (by rfl) g_are_marks F_are_marks.kp b_are_marks .nil pass0 (pa_cons (pe_ix (r := rIxT K) ix_tup (pv 0) pe_int (fun _ _ => rfl)) (pa_cons (pe_ix (r := rIxT K) ix_tup (pv 0) pe_int (fun _ _ => rfl)) pa_nil))))))))) pss_nil)
      (pss_cons (ps_if (pt_cmpR (r := rEqD K) (op_eqD hr.units) (pe_ix (r := rIxT K) ix_tup (pv 0) pe_int (fun _ _ => rfl)) pe_str (nomark _)) (pss_one (ps_ret (pe_and (pe_cmpR op_eq (pe_callB call_len_seq (by rfl) m_len (by decide +kernel) (pa_cons (pv 0) pa_nil)) pe_int (nomark _)) (pe_and (pe_call G_is_whole (hr.mono (by decide)) (by rfl) g_is_whole F_is_whole.kp b_is_whole .nil pass0 (pa_cons (pe_ix (r := rIxT K) ix_tup (pv 0) pe_int (fun _ _ => rfl)) pa_nil)) (pe_one (pe_cmpR op_ge (pe_ix (r := rIxT K) ix_tup (pv 0) pe_int (fun _ _ => rfl)) pe_int (nomark _))))))) pss_nil)
      (pss_one (ps_ret (pe_or (pe_cmpR (r := rEqD K) (op_eqD hr.units) (pv 0) (pe_tup (pa_cons pe_str pa_nil)) (nomark _)) (pe_one (pe_cmpR (r := rEqD K) (op_eqD hr.units) (pv 0) (pe_tup (pa_cons pe_str pa_nil)) (nomark _))))))))), ?_⟩
    refine w_st (σ' := [some v]) rfl ?_
    walk_at "ct"
    cases hd with
    | non =>
      refine w_isi (b := false) (.base .non) (kit_ty (by decide +kernel)) ?_
      walk_at "ct"
      exact q H (Same.refl H)
    | bl b =>
      refine w_isi (b := false) (.base (.bl b)) (kit_ty (by decide +kernel)) ?_
      walk_at "ct"
      exact q H (Same.refl H)
    | int i =>
      refine w_isi (b := false) (.base (.int i)) (kit_ty (by decide +kernel)) ?_
      walk_at "ct"
      exact q H (Same.refl H)
    | str x =>
      refine w_isi (b := false) (.base (.str x)) (kit_ty (by decide +kernel)) ?_
      walk_at "ct"
      exact q H (Same.refl H)
    | lst hs ht =>
      refine w_isi (b := false) (tyx_L hs) (kit_ty (by decide +kernel)) ?_
      walk_at "ct"
      exact q H (Same.refl H)
    | @tup a xs ds hs ht =>
      refine w_isi (b := true) (tyx_T hs) (kit_ty (by decide +kernel)) ?_
      walk_at "ct"
      refine ⟨a, xs, rfl, .inr hs, ?_⟩
      walk_at "ct"
      cases ht with
      | nil =>
        refine w_ite (fun e => ?_) (fun e => absurd rfl e)
        walk_at "ct"
        exact q H (Same.refl H)
      | @cons v0 vs0 d0 ds0 h0 t0 =>
        have hw : SeqAt.shaped (.str "wheel") = true := by decide +kernel
        have hsp : SeqAt.shaped (.str "spring") = true := by decide +kernel
        rw [PyData.canLay0, PyData.canLayAll0, Bool.and_eq_true] at lay
        rw [PyData.depth, PyData.depthAll] at dep
        have sh0 : SeqAt.shaped d0 = true := shaped_of (n := n) ⟨lay.1, by omega⟩ (by omega)
        have hwhole : ∀ H', Same H H' → Dp K H' (.ref a) (.tuple (d0 :: ds0)) := fun H' s => .tup (Same.tup s hs) (.cons (dp_same s h0) (dpAll_same s t0))
        have shw : SeqAt.shaped (.tuple (d0 :: ds0)) = true := shaped_of (n := n) ⟨by rw [PyData.canLay0, PyData.canLayAll0, lay.1, lay.2]; rfl, by rw [PyData.depth, PyData.depthAll]; omega⟩ (by omega)
        refine w_ite (fun e => absurd e (by rw [List.length_cons]; omega)) (fun e => ?_)
        walk_at "ct"
        refine ⟨d0, .str "wheel", h0, .str _, sh0, hw, ?_⟩
        walk_at "ct"
        by_cases e1 : PyData.eqv d0 (.str "wheel") = true
        · rw [if_pos e1]
          have hq : ∀ b : Bool, b = isP (.tuple (d0 :: ds0)) → Q (.bl b) H := fun b hb => by
            rw [hb]
            exact q H (Same.refl H)
          have hP : isP (.tuple (d0 :: ds0)) = wheelT ds0 := by
            simp only [isP, if_pos e1]
          walk_at "ct"
          refine ⟨a, _, rfl, .inr hs, ?_⟩
          walk_at "ct"
          have l0 := dpAll_len t0
          cases t0 with
          | nil =>
            refine w_ite (fun e => absurd e (by show ¬ ((1 : Nat) : Int) = 3; decide)) (fun e => ?_)
            exact hq _ hP.symm
          | @cons v1 vs1 d1 ds1 h1 t1 =>
            cases t1 with
            | nil =>
              refine w_ite (fun e => absurd e (by show ¬ ((2 : Nat) : Int) = 3; decide)) (fun e => ?_)
              exact hq _ (by rw [hP]; cases d1 <;> rfl)
            | @cons v2 vs2 d2 ds2 h2 t2 =>
              cases t2 with
              | nil =>
                refine w_ite (fun e => ?_) (fun e => absurd rfl e)
                walk_at "ct"
                refine ⟨v1, d1, rfl, h1, ?_⟩
                cases h1 with
                | int z =>
                  refine w_bl ?_
                  refine iteT ?_
                  walk_at "ct"
                  refine w_ite (fun e => ?_) (fun e => ?_)
                  · walk_at "ct"
                    refine ⟨v2, d2, z, rfl, h2, ?_⟩
                    exact hq _ (by rw [hP]; show _ = (decide (1 ≤ z) && areM d2 z); rw [decide_eq_true e]; rfl)
                  · exact hq _ (by rw [hP]; show _ = (decide (1 ≤ z) && areM d2 z); rw [decide_eq_false e]; rfl)
                | non => exact w_bl (iteF (hq _ hP.symm))
                | bl b => exact w_bl (iteF (hq _ hP.symm))
                | str s => exact w_bl (iteF (hq _ hP.symm))
                | lst g1 g2 => exact w_bl (iteF (hq _ hP.symm))
                | tup g1 g2 => exact w_bl (iteF (hq _ hP.symm))
              | @cons v3 vs3 d3 ds3 h3 t3 =>
                refine w_ite (fun e => absurd e (by rw [List.length_cons, List.length_cons, List.length_cons, List.length_cons]; omega)) (fun e => ?_)
                exact hq _ (by rw [hP]; cases d1 <;> rfl)
        · rw [if_neg e1]
          walk_at "ct"
          refine ⟨d0, .str "spring", h0, .str _, sh0, hsp, ?_⟩
          walk_at "ct"
          by_cases e2 : PyData.eqv d0 (.str "spring") = true
          · rw [if_pos e2]
            have hq : ∀ b : Bool, b = isP (.tuple (d0 :: ds0)) → Q (.bl b) H := fun b hb => by
              rw [hb]
              exact q H (Same.refl H)
            have hP : isP (.tuple (d0 :: ds0)) = springT ds0 := by
              simp only [isP, if_neg e1, if_pos e2]
            walk_at "ct"
            refine ⟨a, _, rfl, .inr hs, ?_⟩
            walk_at "ct"
            cases t0 with
            | nil =>
              refine w_ite (fun e => absurd e (by show ¬ ((1 : Nat) : Int) = 2; decide)) (fun e => ?_)
              exact hq _ hP.symm
            | @cons v1 vs1 d1 ds1 h1 t1 =>
              cases t1 with
              | nil =>
                refine w_ite (fun e => ?_) (fun e => absurd rfl e)
                walk_at "ct"
                refine ⟨v1, d1, rfl, h1, ?_⟩
                cases h1 with
                | int z =>
                  refine w_bl ?_
                  refine iteT ?_
                  walk_at "ct"
                  exact hq _ hP.symm
                | non => exact w_bl (iteF (hq _ hP.symm))
                | bl b => exact w_bl (iteF (hq _ hP.symm))
                | str s => exact w_bl (iteF (hq _ hP.symm))
                | lst g1 g2 => exact w_bl (iteF (hq _ hP.symm))
                | tup g1 g2 => exact w_bl (iteF (hq _ hP.symm))
              | @cons v2 vs2 d2 ds2 h2 t2 =>
                refine w_ite (fun e => absurd e (by rw [List.length_cons, List.length_cons, List.length_cons]; omega)) (fun e => ?_)
                exact hq _ (by rw [hP]; cases d1 <;> rfl)
          · rw [if_neg e2]
            have hP : isP (.tuple (d0 :: ds0)) = (PyData.eqv (.tuple (d0 :: ds0)) (.tuple [.str "click"]) || PyData.eqv (.tuple (d0 :: ds0)) (.tuple [.str "rocker"])) := by
              simp only [isP, if_neg e1, if_neg e2]
            rw [hP] at q
            walk_at "ct"
            refine ⟨len2 rfl, fun p np => ?_⟩
            have s1 : Same H (upd H p (.tup [.str "click"])) := same_upd np
            refine ⟨.tuple (d0 :: ds0), .tuple [.str "click"], hwhole _ s1, .tup (.of upd_same) (.cons (.str _) .nil), shw, by decide +kernel, ?_⟩
            walk_at "ct"
            by_cases e3 : PyData.eqv (.tuple (d0 :: ds0)) (.tuple [.str "click"]) = true
            · rw [if_pos e3]
              rw [e3] at q
              exact q _ s1
            · rw [if_neg e3]
              rw [Bool.not_eq_true] at e3
              rw [e3] at q
              walk_at "ct"
              refine ⟨len2 rfl, fun p2 np2 => ?_⟩
              have s2 := same_new (o := .tup [.str "rocker"]) s1 (s1.free np2)
              refine ⟨.tuple (d0 :: ds0), .tuple [.str "rocker"], hwhole _ s2, .tup (.of upd_same) (.cons (.str _) .nil), shw, by decide +kernel, ?_⟩
              exact q _ s2
abbrev S_check_train : Stmt := topS 10
theorem sc_check_train : FnScope ["train", "part"] ["train"] (defScope S_check_train) := ⟨rfl, rfl, rfl, by decide +kernel, rfl, by decide +kernel, by decide +kernel⟩
def sp_check_train (K : PySem.W.Frag) : Sp := fun vs H Q _ => ∃ (a : Addr) (ps : List Part), vs = [.ref a] ∧ TrainAt K H a ps ∧ (∀ p ∈ ps, p.ok) ∧ 1 ≤ ps.length ∧ ∀ H', Same H H' → Q .non H'
theorem ok_check_train {f : Addr} {fd : FuncData} {f_is_part : Addr} {fd_is_part : FuncData} (F : Fun K "check_train" "check_train" S_check_train f fd)
    (F_is_part : Fun K "is_part" "is_part" S_is_part f_is_part fd_is_part) (b_is_part : Binds K fd_is_part ["thing"] []) (g_is_part : mg "is_part" = some (.ref f_is_part)) (G_is_part : FnOk P w K mg base CX0 3 f_is_part fd_is_part ["thing"] (sp_is_part K)) (m_isinstance : mg "isinstance" = none) (m_list : mg "list" = none) (m_len : mg "len" = none) :
    FnOk P w K mg base CX0 4 f fd ["train"] (sp_check_train K) := by
  refine F.ok sc_check_train (fun vs H Q E h => ?_) (fun cdv A outer s H vs Q E hr h => ?_)
  ·
    obtain ⟨a, ps, rfl, _⟩ := h
    rfl
  ·
    obtain ⟨a, ps, rfl, ⟨vs, hv, hd⟩, hok, hps, q⟩ := h
    refine ⟨_, (pss_cons (ps_if (PW.pt (pw_or (pt_not (pt_val (pe_callB (r := rIsi K) call_isi (by rfl) m_isinstance (by decide +kernel) (pa_cons (pv 0) (pa_cons (pe_bltn (v := .ty "list") (u := .type "list") (by rfl) m_list (by decide +kernel) rfl) pa_nil))))) (pw_or1 (pt_cmpR op_eq (pe_callB call_len_seq (by rfl) m_len (by decide +kernel) (pa_cons (pv 0) pa_nil)) pe_int (nomark _))))) (pss_one ps_never) pss_nil)
      (pss_one (ps_for PassesOwn.never rfl (pi_list (pv 0)) (pg_name (i := 1) sc_check_train.nd rfl (.inl rfl))
      (pss_one (ps_if (pt_not (pt_val (pe_call G_is_part (hr.mono (by decide)) (by rfl) g_is_part F_is_part.kp b_is_part .nil pass0 (pa_cons (pv 1) pa_nil)))) (pss_one ps_never) pss_nil))))), ?_⟩
    refine w_st (σ' := [some (.ref a), none]) rfl ?_
    have hvl : vs.length = ps.length := by rw [dpAll_len hd, List.length_map]
    walk_at "ct"
    refine w_isi (b := true) (tyx_L hv) (kit_ty (by decide +kernel)) ?_
    walk_at "ct"
    refine ⟨a, vs, rfl, .inl hv, ?_⟩
    walk_at "ct"
    refine w_ite (fun e => absurd e (by omega)) (fun e => ?_)
    walk_at "ct"
    refine w_IL hv ?_
    refine fb_list vs (fun n σ H' => ∃ y, σ = [some (.ref a), y] ∧ Same H H') ⟨none, rfl, Same.refl H⟩ ?_ ?_ ?_
    · rintro n σ H' hn ⟨y, rfl, sm⟩
      exact sm.seq hv
    · rintro n v σ H' hx ⟨y, rfl, sm⟩
      have hn : n < vs.length := (List.getElem?_eq_some_iff.mp hx).1
      obtain ⟨p, hp⟩ : ∃ p, ps[n]? = some p := ⟨_, List.getElem?_eq_getElem (by omega)⟩
      obtain ⟨v', hv1, hd1⟩ := TrainAt.at (a := a) hd hp
      cases Option.some.inj (hx.symm.trans hv1)
      walk_at "ct"
      refine ⟨v, p.data, 2, rfl, dp_same sm hd1, (lay_part p).1, (lay_part p).2, by decide, fun H1 s1 => ?_⟩
      rw [isP_of (hok p (List.mem_of_getElem? hp))]
      walk_at "ct"
      exact ⟨_, rfl, sm.trans s1⟩
    · rintro σ H' ⟨y, rfl, sm⟩
      exact q H' sm
abbrev S_place_count : Stmt := topS 11
theorem sc_place_count : FnScope ["part"] ["part"] (defScope S_place_count) := ⟨rfl, rfl, rfl, by decide +kernel, rfl, by decide +kernel, by decide +kernel⟩
def sp_place_count (K : PySem.W.Frag) : Sp := fun vs H Q _ => ∃ (v : V) (p : Part), vs = [v] ∧ Dp K H v p.data ∧ Q (.int p.places) H
theorem ok_place_count {f : Addr} {fd : FuncData} (F : Fun K "place_count" "place_count" S_place_count f fd) :
    FnOk P w K mg base CX0 1 f fd ["part"] (sp_place_count K) := by
  refine F.ok sc_place_count (fun vs H Q E h => ?_) (fun cdv A outer s H vs Q E hr h => ?_)
  ·
    obtain ⟨v, p, rfl, _⟩ := h
    rfl
  ·
    obtain ⟨v, p, rfl, hp, q⟩ := h
    refine ⟨_, (pss_cons (ps_if (pt_cmpR op_eq (pe_ix (r := rIxT K) ix_tup (pv 0) pe_int (fun _ _ => rfl)) pe_str (nomark _)) (pss_one (ps_ret pe_int)) pss_nil)
      (pss_cons (ps_if (pt_cmpR op_eq (pe_ix (r := rIxT K) ix_tup (pv 0) pe_int (fun _ _ => rfl)) pe_str (nomark _)) (pss_one (ps_ret pe_int)) pss_nil)
      (pss_one (ps_ret (pe_ix (r := rIxT K) ix_tup (pv 0) pe_int (fun _ _ => rfl)))))), ?_⟩
    refine w_st (σ' := [some v]) rfl ?_
    cases p with
    | wheel z ms =>
      obtain ⟨a, b, rfl, ha, hb⟩ := wheel_inv hp
      walk_at "ct"
      exact q
    | click =>
      obtain ⟨a, rfl, ha⟩ := click_inv hp
      walk_at "ct"
      exact q
    | rocker =>
      obtain ⟨a, rfl, ha⟩ := rocker_inv hp
      walk_at "ct"
      exact q
    | spring k =>
      obtain ⟨a, rfl, ha⟩ := spring_inv hp
      walk_at "ct"
      exact q
abbrev S_is_stand : Stmt := topS 12
theorem sc_is_stand : FnScope ["train", "thing", "part", "place"] ["train", "thing"] (defScope S_is_stand) := ⟨rfl, rfl, rfl, by decide +kernel, rfl, by decide +kernel, by decide +kernel⟩
def sp_is_stand (K : PySem.W.Frag) : Sp := fun vs H Q _ => ∃ (a t : Addr) (ps : List Part) (xs : List Int), vs = [.ref a, .ref t] ∧ TrainAt K H a ps ∧ SqT K H t (xs.map V.int) ∧ StandOk ps xs ∧ ∀ H', Same H H' → Q (.bl true) H'
theorem ok_is_stand {f : Addr} {fd : FuncData} {f_place_count : Addr} {fd_place_count : FuncData} {f_is_whole : Addr} {fd_is_whole : FuncData} (F : Fun K "is_stand" "is_stand" S_is_stand f fd)
    (F_place_count : Fun K "place_count" "place_count" S_place_count f_place_count fd_place_count) (b_place_count : Binds K fd_place_count ["part"] []) (g_place_count : mg "place_count" = some (.ref f_place_count)) (G_place_count : FnOk P w K mg base CX0 1 f_place_count fd_place_count ["part"] (sp_place_count K))
    (F_is_whole : Fun K "is_whole" "is_whole" S_is_whole f_is_whole fd_is_whole) (b_is_whole : Binds K fd_is_whole ["thing"] []) (g_is_whole : mg "is_whole" = some (.ref f_is_whole)) (G_is_whole : FnOk P w K mg base CX0 1 f_is_whole fd_is_whole ["thing"] (sp_is_whole K)) (m_zip : mg "zip" = none) (m_isinstance : mg "isinstance" = none) (m_tuple : mg "tuple" = none) (m_len : mg "len" = none) :
    FnOk P w K mg base CX0 2 f fd ["train", "thing"] (sp_is_stand K) := by
  refine F.ok sc_is_stand (fun vs H Q E h => ?_) (fun cdv A outer s H vs Q E hr h => ?_)
  ·
    obtain ⟨a, t, ps, xs, rfl, _⟩ := h
    rfl
  ·
    obtain ⟨a, t, ps, xs, rfl, ⟨vs, hv, hd⟩, hS, hso, q⟩ := h
    have s1 := Same.refl H
    refine ⟨_, (pss_cons (ps_if (PW.pt (pw_or (pt_not (pt_val (pe_callB (r := rIsi K) call_isi (by rfl) m_isinstance (by decide +kernel) (pa_cons (pv 1) (pa_cons (pe_bltn (v := .ty "tuple") (u := .type "tuple") (by rfl) m_tuple (by decide +kernel) rfl) pa_nil))))) (pw_or1 (pt_cmpR op_ne (pe_callB call_len_seq (by rfl) m_len (by decide +kernel) (pa_cons (pv 1) pa_nil)) (pe_callB call_len_seq (by rfl) m_len (by decide +kernel) (pa_cons (pv 0) pa_nil)) (nomark _))))) (pss_one (ps_ret pe_bl)) pss_nil)
      (pss_cons (ps_for PassesOwn.never rfl (pi_zipM (by rfl) m_zip (pa_cons (pv 0) (pa_cons (pv 1) pa_nil))) (pg_tup rfl (pgs_cons (pg_name (i := 2) sc_is_stand.nd rfl (.inl rfl)) (pgs_cons (pg_name (i := 3) sc_is_stand.nd rfl (.inl rfl)) pgs_nil)))
      (pss_one (ps_if (PW.pt (pw_or (pt_not (pt_val (pe_call G_is_whole (hr.mono (by decide)) (by rfl) g_is_whole F_is_whole.kp b_is_whole .nil pass0 (pa_cons (pv 3) pa_nil)))) (pw_or (pt_cmpR op_lt (pv 3) pe_int (nomark _)) (pw_or1 (pt_cmpR op_ge (pv 3) (pe_call G_place_count (hr.mono (by decide)) (by rfl) g_place_count F_place_count.kp b_place_count .nil pass0 (pa_cons (pv 2) pa_nil)) (nomark _)))))) (pss_one (ps_ret pe_bl)) pss_nil)))
      (pss_one (ps_ret pe_bl)))), ?_⟩
    refine w_st (σ' := [some (.ref a), some (.ref t), none, none]) rfl ?_
    have hvl : vs.length = ps.length := by rw [dpAll_len hd, List.length_map]
    have hxl := hso.1
    walk_at "ct"
    refine w_isi (b := true) (tyx_T (Same.tup s1 hS)) (kit_ty (by decide +kernel)) ?_
    walk_at "ct"
    refine ⟨t, _, rfl, .inr (Same.tup s1 hS), ?_⟩
    walk_at "ct"
    refine ⟨a, _, rfl, .inl (s1.seq hv), ?_⟩
    walk_at "ct"
    refine w_iteN (fun e => absurd (by rw [List.length_map, hxl, hvl]) e) (fun e => ?_)
    walk_at "ct"
    refine w_IM (s1.seq hv) (Same.tup s1 hS) ?_
    refine fb_zipM vs (xs.map V.int) (by rw [List.length_map]; omega) (fun n σ H' => ∃ y z, σ = [some (.ref a), some (.ref t), y, z] ∧ Same H H') ⟨none, none, rfl, s1⟩ ?_ ?_ ?_
    · rintro n σ H' hn ⟨y, z, rfl, sm⟩
      exact ⟨sm.seq hv, Same.tup sm hS⟩
    · rintro n v u T σ H' hx hu ⟨y, z, rfl, sm⟩ hT
      have hn : n < vs.length := (List.getElem?_eq_some_iff.mp hx).1
      obtain ⟨p, hp⟩ : ∃ p, ps[n]? = some p := ⟨_, List.getElem?_eq_getElem (by omega)⟩
      obtain ⟨v', hv1, hd1⟩ := TrainAt.at (a := a) hd hp
      cases Option.some.inj (hx.symm.trans hv1)
      obtain ⟨x, hxx⟩ : ∃ x, xs[n]? = some x := ⟨_, List.getElem?_eq_getElem (by omega)⟩
      rw [List.getElem?_map, hxx] at hu
      cases Option.some.inj hu
      have hb := hso.2 n p x hp hxx
      have s2 : Same H (upd H' T (.tup [v, .int x])) := same_new sm (sm.free hT)
      refine w_gtup (.of upd_same) rfl ?_
      walk_at "ct"
      refine ⟨.int x, .int x, rfl, .int x, ?_⟩
      walk_at "ct"
      refine w_nT ?_
      walk_at "ct"
      refine w_ite (fun e => absurd e (by omega)) (fun e => ?_)
      walk_at "ct"
      refine ⟨v, p, rfl, dp_same s2 hd1, ?_⟩
      walk_at "ct"
      refine w_ite (fun e => absurd e (by omega)) (fun e => ?_)
      walk_at "ct"
      exact ⟨_, _, rfl, s2⟩
    · rintro σ H' ⟨y, z, rfl, sm⟩
      walk_at "ct"
      exact q H' sm
abbrev S_check_stand : Stmt := topS 13
theorem sc_check_stand : FnScope ["train", "stand"] ["train", "stand"] (defScope S_check_stand) := ⟨rfl, rfl, rfl, by decide +kernel, rfl, by decide +kernel, by decide +kernel⟩
def sp_check_stand (K : PySem.W.Frag) : Sp := fun vs H Q _ => ∃ (a t : Addr) (ps : List Part) (xs : List Int), vs = [.ref a, .ref t] ∧ TrainAt K H a ps ∧ (∀ p ∈ ps, p.ok) ∧ 1 ≤ ps.length ∧ SqT K H t (xs.map V.int) ∧ StandOk ps xs ∧ ∀ H', Same H H' → Q .non H'
theorem ok_check_stand {f : Addr} {fd : FuncData} {f_is_stand : Addr} {fd_is_stand : FuncData} {f_check_train : Addr} {fd_check_train : FuncData} (F : Fun K "check_stand" "check_stand" S_check_stand f fd)
    (F_is_stand : Fun K "is_stand" "is_stand" S_is_stand f_is_stand fd_is_stand) (b_is_stand : Binds K fd_is_stand ["train", "thing"] []) (g_is_stand : mg "is_stand" = some (.ref f_is_stand)) (G_is_stand : FnOk P w K mg base CX0 2 f_is_stand fd_is_stand ["train", "thing"] (sp_is_stand K))
    (F_check_train : Fun K "check_train" "check_train" S_check_train f_check_train fd_check_train) (b_check_train : Binds K fd_check_train ["train"] []) (g_check_train : mg "check_train" = some (.ref f_check_train)) (G_check_train : FnOk P w K mg base CX0 4 f_check_train fd_check_train ["train"] (sp_check_train K)) :
    FnOk P w K mg base CX0 5 f fd ["train", "stand"] (sp_check_stand K) := by
  refine F.ok sc_check_stand (fun vs H Q E h => ?_) (fun cdv A outer s H vs Q E hr h => ?_)
  ·
    obtain ⟨a, t, ps, xs, rfl, _⟩ := h
    rfl
  ·
    obtain ⟨a, t, ps, xs, rfl, hT, hok, hps, hS, hso, q⟩ := h
    refine ⟨_, (pss_cons (ps_expr (pe_call G_check_train (hr.mono (by decide)) (by rfl) g_check_train F_check_train.kp b_check_train .nil pass0 (pa_cons (pv 0) pa_nil)))
      (pss_one (ps_if (pt_not (pt_val (pe_call G_is_stand (hr.mono (by decide)) (by rfl) g_is_stand F_is_stand.kp b_is_stand .nil pass0 (pa_cons (pv 0) (pa_cons (pv 1) pa_nil))))) (pss_one ps_never) pss_nil))), ?_⟩
    refine w_st (σ' := [some (.ref a), some (.ref t)]) rfl ?_
    walk_at "ct"
    refine ⟨a, ps, rfl, hT, hok, hps, fun H1 s1 => ?_⟩
    walk_at "ct"
    refine ⟨a, t, ps, xs, rfl, hT.same s1, Same.tup s1 hS, hso, fun H2 s2 => ?_⟩
    walk_at "ct"
    exact q H2 (s1.trans s2)
abbrev S_is_way : Stmt := topS 14
theorem sc_is_way : FnScope ["thing"] ["thing"] (defScope S_is_way) := ⟨rfl, rfl, rfl, by decide +kernel, rfl, by decide +kernel, by decide +kernel⟩
def isWay : PyData → Bool
  | .int i => decide (i = 1) || decide (i = -1)
  | _ => false
def sp_is_way (K : PySem.W.Frag) : Sp := fun vs H Q _ => ∃ (v : V) (d : PyData), vs = [v] ∧ Dp K H v d ∧ ∀ H', Same H H' → Q (.bl (isWay d)) H'
theorem ok_is_way {f : Addr} {fd : FuncData} {f_is_whole : Addr} {fd_is_whole : FuncData} (F : Fun K "is_way" "is_way" S_is_way f fd)
    (F_is_whole : Fun K "is_whole" "is_whole" S_is_whole f_is_whole fd_is_whole) (b_is_whole : Binds K fd_is_whole ["thing"] []) (g_is_whole : mg "is_whole" = some (.ref f_is_whole)) (G_is_whole : FnOk P w K mg base CX0 1 f_is_whole fd_is_whole ["thing"] (sp_is_whole K)) :
    FnOk P w K mg base CX0 2 f fd ["thing"] (sp_is_way K) := by
  refine F.ok sc_is_way (fun vs H Q E h => ?_) (fun cdv A outer s H vs Q E hr h => ?_)
  ·
    obtain ⟨v, d, rfl, _⟩ := h
    rfl
  ·
    obtain ⟨v, d, rfl, hd, q⟩ := h
    refine ⟨_, (pss_one (ps_ret (pe_and (pe_call G_is_whole (hr.mono (by decide)) (by rfl) g_is_whole F_is_whole.kp b_is_whole .nil pass0 (pa_cons (pv 0) pa_nil)) (pe_one (pe_cmpR (r := rIn K false) op_in_seq (pv 0) (pe_tup (pa_cons pe_int (pa_cons (pe_un un_neg pe_int) pa_nil))) (by rfl)))))), ?_⟩
    refine w_st (σ' := [some v]) rfl ?_
    walk_at "ct"
    refine ⟨v, d, rfl, hd, ?_⟩
    cases hd with
    | int i =>
      refine w_bl (iteT ?_)
      walk_at "ct"
      refine ⟨len2 rfl, fun p np => ?_⟩
      refine w_inT (ns := [1, -1]) (.of upd_same) ?_
      have e : decide (i ∈ ([1, -1] : List Int)) = isWay (.int i) := by
        rw [Bool.eq_iff_iff, decide_eq_true_iff, isWay, Bool.or_eq_true, decide_eq_true_iff, decide_eq_true_iff]
        simp
      rw [e]
      exact q _ (same_upd np)
    | non =>
      refine w_bl (iteF ?_)
      exact q H (Same.refl H)
    | bl b =>
      refine w_bl (iteF ?_)
      exact q H (Same.refl H)
    | str s =>
      refine w_bl (iteF ?_)
      exact q H (Same.refl H)
    | lst g1 g2 =>
      refine w_bl (iteF ?_)
      exact q H (Same.refl H)
    | tup g1 g2 =>
      refine w_bl (iteF ?_)
      exact q H (Same.refl H)
abbrev S_wheel_pushed : Stmt := topS 15
theorem sc_wheel_pushed : FnScope ["part", "place", "way", "after", "tooth"] ["part", "place", "way"] (defScope S_wheel_pushed) := ⟨rfl, rfl, rfl, by decide +kernel, rfl, by decide +kernel, by decide +kernel⟩
def sp_wheel_pushed (K : PySem.W.Frag) : Sp := fun vs H Q _ => ∃ (v : V) (z : Int) (ms : List Int) (x w : Int), vs = [v, .int x, .int w] ∧ Dp K H v (Part.wheel z ms).data ∧ 1 ≤ z ∧ Sign w ∧ ∀ t H', Same H H' → H t = none → H' t = some (.tup [.int (pp (.wheel z ms) x w).1, .int (pp (.wheel z ms) x w).2]) → Q (.ref t) H'
theorem ok_wheel_pushed {f : Addr} {fd : FuncData} (F : Fun K "wheel_pushed" "wheel_pushed" S_wheel_pushed f fd) :
    FnOk P w K mg base CX0 1 f fd ["part", "place", "way"] (sp_wheel_pushed K) := by
  refine F.ok sc_wheel_pushed (fun vs H Q E h => ?_) (fun cdv A outer s H vs Q E hr h => ?_)
  ·
    obtain ⟨v, z, ms, x, w, rfl, _⟩ := h
    rfl
  ·
    obtain ⟨v, z, ms, x, w, rfl, hp, hz, hw, q⟩ := h
    refine ⟨_, (pss_cons (ps_set (i := 3) sc_wheel_pushed.nd rfl (.inl rfl) (pe_op op_mod (pe_op op_add (pv 1) (pv 2)) (pe_ix (r := rIxT K) ix_tup (pv 0) pe_int (fun _ _ => rfl))))
      (pss_cons (ps_set (i := 4) sc_wheel_pushed.nd rfl (.inl rfl) (pe_ifExp (pt_cmpR op_eq (pv 2) pe_int (nomark _)) (pv 3) (pv 1)))
      (pss_one (ps_ret (pe_tup (pa_cons (pv 3) (pa_cons (pe_ifExp (pt_cmpR (r := rIn K false) op_in_seq (pv 4) (pe_ix (r := rIxT K) ix_tup (pv 0) pe_int (fun _ _ => rfl)) (by rfl)) (pv 2) pe_int) pa_nil))))))), ?_⟩
    obtain ⟨a, b, rfl, ha, hb⟩ := wheel_inv hp
    refine w_st (σ' := [some (.ref a), some (.int x), some (.int w), none, none]) rfl ?_
    walk_at "ct"
    refine w_rI (by omega) ?_
    walk_at "ct"
    refine w_ite (fun e => ?_) (fun e => ?_)
    · walk_at "ct"
      refine w_inT hb ?_
      walk_at "ct"
      refine w_ite (fun e2 => ?_) (fun e2 => ?_)
      · walk_at "ct"
        refine ⟨len2 rfl, fun p np => ?_⟩
        refine q _ _ (same_upd np) np ?_
        rw [upd_same]
        simp only [pp]
        rw [if_pos e, if_pos e2]
      · walk_at "ct"
        refine ⟨len2 rfl, fun p np => ?_⟩
        refine q _ _ (same_upd np) np ?_
        rw [upd_same]
        simp only [pp]
        rw [if_pos e, if_neg e2]
    · walk_at "ct"
      refine w_inT hb ?_
      walk_at "ct"
      refine w_ite (fun e2 => ?_) (fun e2 => ?_)
      · walk_at "ct"
        refine ⟨len2 rfl, fun p np => ?_⟩
        refine q _ _ (same_upd np) np ?_
        rw [upd_same]
        simp only [pp]
        rw [if_neg e, if_pos e2]
      · walk_at "ct"
        refine ⟨len2 rfl, fun p np => ?_⟩
        refine q _ _ (same_upd np) np ?_
        rw [upd_same]
        simp only [pp]
        rw [if_neg e, if_neg e2]
abbrev S_rocker_pushed : Stmt := topS 16
theorem sc_rocker_pushed : FnScope ["place", "way"] ["place", "way"] (defScope S_rocker_pushed) := ⟨rfl, rfl, rfl, by decide +kernel, rfl, by decide +kernel, by decide +kernel⟩
def sp_rocker_pushed (K : PySem.W.Frag) : Sp := fun vs H Q _ => ∃ (x w : Int), vs = [.int x, .int w] ∧ Sign w ∧ ∀ t H', Same H H' → H t = none → H' t = some (.tup [.int (pp .rocker x w).1, .int (pp .rocker x w).2]) → Q (.ref t) H'
theorem ok_rocker_pushed {f : Addr} {fd : FuncData} (F : Fun K "rocker_pushed" "rocker_pushed" S_rocker_pushed f fd) :
    FnOk P w K mg base CX0 1 f fd ["place", "way"] (sp_rocker_pushed K) := by
  refine F.ok sc_rocker_pushed (fun vs H Q E h => ?_) (fun cdv A outer s H vs Q E hr h => ?_)
  ·
    obtain ⟨x, w, rfl, _⟩ := h
    rfl
  ·
    obtain ⟨x, w, rfl, hw, q⟩ := h
    refine ⟨_, (pss_cons (ps_if (pt_cmpR op_eq (pv 1) pe_int (nomark _)) (pss_one (ps_ret (pe_tup (pa_cons pe_int (pa_cons (pe_ifExp (pt_cmpR op_eq (pv 0) pe_int (nomark _)) pe_int pe_int) pa_nil))))) pss_nil)
      (pss_one (ps_ret (pe_tup (pa_cons pe_int (pa_cons pe_int pa_nil)))))), ?_⟩
    refine w_st (σ' := [some (.int x), some (.int w)]) rfl ?_
    walk_at "ct"
    refine w_ite (fun e => ?_) (fun e => ?_)
    · walk_at "ct"
      refine w_ite (fun e2 => ?_) (fun e2 => ?_)
      · walk_at "ct"
        refine ⟨len2 rfl, fun p np => ?_⟩
        refine q _ _ (same_upd np) np ?_
        rw [upd_same]
        simp only [pp]
        rw [if_pos e, if_pos ⟨e, e2⟩]
      · walk_at "ct"
        refine ⟨len2 rfl, fun p np => ?_⟩
        refine q _ _ (same_upd np) np ?_
        rw [upd_same]
        simp only [pp]
        rw [if_pos e, if_neg fun z => e2 z.2]
    · walk_at "ct"
      refine ⟨len2 rfl, fun p np => ?_⟩
      refine q _ _ (same_upd np) np ?_
      rw [upd_same]
      simp only [pp]
      rw [if_neg e, if_neg fun z => e z.1]
abbrev S_spring_pushed : Stmt := topS 17
theorem sc_spring_pushed : FnScope ["part", "place", "way"] ["part", "place", "way"] (defScope S_spring_pushed) := ⟨rfl, rfl, rfl, by decide +kernel, rfl, by decide +kernel, by decide +kernel⟩
def sp_spring_pushed (K : PySem.W.Frag) : Sp := fun vs H Q _ => ∃ (v : V) (k x w : Int), vs = [v, .int x, .int w] ∧ Dp K H v (Part.spring k).data ∧ 0 ≤ x ∧ Sign w ∧ ∀ t H', Same H H' → H t = none → H' t = some (.tup [.int (pp (.spring k) x w).1, .int (pp (.spring k) x w).2]) → Q (.ref t) H'
theorem ok_spring_pushed {f : Addr} {fd : FuncData} (F : Fun K "spring_pushed" "spring_pushed" S_spring_pushed f fd) (m_max : mg "max" = none) :
    FnOk P w K mg base CX0 1 f fd ["part", "place", "way"] (sp_spring_pushed K) := by
  refine F.ok sc_spring_pushed (fun vs H Q E h => ?_) (fun cdv A outer s H vs Q E hr h => ?_)
  ·
    obtain ⟨v, k, x, w, rfl, _⟩ := h
    rfl
  ·
    obtain ⟨v, k, x, w, rfl, hp, x0, hw, q⟩ := h
    refine ⟨_, (pss_cons (ps_if (pt_cmpR op_eq (pv 2) (pe_un un_neg pe_int) (nomark _)) (pss_one (ps_ret (pe_tup (pa_cons (pe_callB (call_max2 rfl) (by rfl) m_max (by decide +kernel) (pa_cons pe_int (pa_cons (pe_op op_sub (pv 1) pe_int) pa_nil))) (pa_cons pe_int pa_nil))))) pss_nil)
      (pss_cons (ps_if (pt_cmpR op_eq (pv 1) (pe_op op_sub (pe_ix (r := rIxT K) ix_tup (pv 0) pe_int (fun _ _ => rfl)) pe_int) (nomark _)) (pss_one (ps_ret (pe_tup (pa_cons pe_int (pa_cons pe_int pa_nil))))) pss_nil)
      (pss_one (ps_ret (pe_tup (pa_cons (pe_op op_add (pv 1) pe_int) (pa_cons pe_int pa_nil))))))), ?_⟩
    obtain ⟨a, rfl, ha⟩ := spring_inv hp
    refine w_st (σ' := [some (.ref a), some (.int x), some (.int w)]) rfl ?_
    walk_at "ct"
    refine w_ite (fun e => ?_) (fun e => ?_)
    · walk_at "ct"
      refine ⟨_, _, rfl, ?_⟩
      walk_at "ct"
      refine ⟨len2 rfl, fun p np => ?_⟩
      refine q _ _ (same_upd np) np ?_
      rw [upd_same]
      simp only [pp]
      rw [if_neg (show ¬ w = 1 by omega)]
    · have e1 : w = 1 := hw.elim id fun z => absurd z e
      walk_at "ct"
      refine w_ite (fun e2 => ?_) (fun e2 => ?_)
      · walk_at "ct"
        refine ⟨len2 rfl, fun p np => ?_⟩
        refine q _ _ (same_upd np) np ?_
        rw [upd_same]
        simp only [pp]
        rw [if_pos e1, if_pos e2]
      · walk_at "ct"
        refine ⟨len2 rfl, fun p np => ?_⟩
        refine q _ _ (same_upd np) np ?_
        rw [upd_same]
        simp only [pp]
        rw [if_pos e1, if_neg e2]
abbrev S_part_pushed : Stmt := topS 18
theorem sc_part_pushed : FnScope ["part", "place", "way"] ["part", "place", "way"] (defScope S_part_pushed) := ⟨rfl, rfl, rfl, by decide +kernel, rfl, by decide +kernel, by decide +kernel⟩
def sp_part_pushed (K : PySem.W.Frag) : Sp := fun vs H Q _ => ∃ (v : V) (p : Part) (x w : Int), vs = [v, .int x, .int w] ∧ Dp K H v p.data ∧ p.ok ∧ 0 ≤ x ∧ x < p.places ∧ Sign w ∧ ∀ t H', Same H H' → H t = none → H' t = some (.tup [.int (pp p x w).1, .int (pp p x w).2]) → Q (.ref t) H'
theorem ok_part_pushed {f : Addr} {fd : FuncData} {f_spring_pushed : Addr} {fd_spring_pushed : FuncData} {f_rocker_pushed : Addr} {fd_rocker_pushed : FuncData} {f_wheel_pushed : Addr} {fd_wheel_pushed : FuncData} (F : Fun K "part_pushed" "part_pushed" S_part_pushed f fd)
    (F_spring_pushed : Fun K "spring_pushed" "spring_pushed" S_spring_pushed f_spring_pushed fd_spring_pushed) (b_spring_pushed : Binds K fd_spring_pushed ["part", "place", "way"] []) (g_spring_pushed : mg "spring_pushed" = some (.ref f_spring_pushed)) (G_spring_pushed : FnOk P w K mg base CX0 1 f_spring_pushed fd_spring_pushed ["part", "place", "way"] (sp_spring_pushed K))
    (F_rocker_pushed : Fun K "rocker_pushed" "rocker_pushed" S_rocker_pushed f_rocker_pushed fd_rocker_pushed) (b_rocker_pushed : Binds K fd_rocker_pushed ["place", "way"] []) (g_rocker_pushed : mg "rocker_pushed" = some (.ref f_rocker_pushed)) (G_rocker_pushed : FnOk P w K mg base CX0 1 f_rocker_pushed fd_rocker_pushed ["place", "way"] (sp_rocker_pushed K))
    (F_wheel_pushed : Fun K "wheel_pushed" "wheel_pushed" S_wheel_pushed f_wheel_pushed fd_wheel_pushed) (b_wheel_pushed : Binds K fd_wheel_pushed ["part", "place", "way"] []) (g_wheel_pushed : mg "wheel_pushed" = some (.ref f_wheel_pushed)) (G_wheel_pushed : FnOk P w K mg base CX0 1 f_wheel_pushed fd_wheel_pushed ["part", "place", "way"] (sp_wheel_pushed K)) :
    FnOk P w K mg base CX0 2 f fd ["part", "place", "way"] (sp_part_pushed K) := by
  refine F.ok sc_part_pushed (fun vs H Q E h => ?_) (fun cdv A outer s H vs Q E hr h => ?_)
  ·
    obtain ⟨v, p, x, w, rfl, _⟩ := h
    rfl
  ·
    obtain ⟨v, p, x, w, rfl, hp, hok, x0, x1, hw, q⟩ := h
    refine ⟨_, (pss_cons (ps_if (pt_cmpR op_eq (pe_ix (r := rIxT K) ix_tup (pv 0) pe_int (fun _ _ => rfl)) pe_str (nomark _)) (pss_one (ps_ret (pe_call G_wheel_pushed (hr.mono (by decide)) (by rfl) g_wheel_pushed F_wheel_pushed.kp b_wheel_pushed .nil pass0 (pa_cons (pv 0) (pa_cons (pv 1) (pa_cons (pv 2) pa_nil)))))) pss_nil)
      (pss_cons (ps_if (pt_cmpR op_eq (pe_ix (r := rIxT K) ix_tup (pv 0) pe_int (fun _ _ => rfl)) pe_str (nomark _)) (pss_one (ps_ret (pe_call G_rocker_pushed (hr.mono (by decide)) (by rfl) g_rocker_pushed F_rocker_pushed.kp b_rocker_pushed .nil pass0 (pa_cons (pv 1) (pa_cons (pv 2) pa_nil))))) pss_nil)
      (pss_cons (ps_if (pt_cmpR op_eq (pe_ix (r := rIxT K) ix_tup (pv 0) pe_int (fun _ _ => rfl)) pe_str (nomark _)) (pss_one (ps_ret (pe_call G_spring_pushed (hr.mono (by decide)) (by rfl) g_spring_pushed F_spring_pushed.kp b_spring_pushed .nil pass0 (pa_cons (pv 0) (pa_cons (pv 1) (pa_cons (pv 2) pa_nil)))))) pss_nil)
      (pss_one (ps_ret (pe_tup (pa_cons (pv 1) (pa_cons (pe_ifExp (pt_cmpR op_eq (pv 2) pe_int (nomark _)) pe_int pe_int) pa_nil)))))))), ?_⟩
    refine w_st (σ' := [some v, some (.int x), some (.int w)]) rfl ?_
    cases p with
    | wheel z ms =>
      obtain ⟨a, b, rfl, ha, hb⟩ := wheel_inv hp
      walk_at "ct"
      exact ⟨_, z, ms, x, w, rfl, hp, hok.1, hw, q⟩
    | click =>
      obtain ⟨a, rfl, ha⟩ := click_inv hp
      have x2 : x < 1 := x1
      have ex : x = 0 := by omega
      subst ex
      walk_at "ct"
      refine w_ite (fun e => ?_) (fun e => ?_)
      · walk_at "ct"
        refine ⟨len2 rfl, fun p np => ?_⟩
        refine q _ _ (same_upd np) np ?_
        rw [upd_same]
        simp only [pp]
        rw [if_pos e]
      · walk_at "ct"
        refine ⟨len2 rfl, fun p np => ?_⟩
        refine q _ _ (same_upd np) np ?_
        rw [upd_same]
        simp only [pp]
        rw [if_neg e]
    | rocker =>
      obtain ⟨a, rfl, ha⟩ := rocker_inv hp
      walk_at "ct"
      exact ⟨x, w, rfl, hw, q⟩
    | spring k =>
      obtain ⟨a, rfl, ha⟩ := spring_inv hp
      walk_at "ct"
      exact ⟨_, k, x, w, rfl, hp, x0, hw, q⟩
abbrev S_pushed : Stmt := topS 19
theorem sc_pushed : FnScope ["train", "stand", "i", "way", "places", "given", "number"] ["train", "stand", "i", "way"] (defScope S_pushed) := ⟨rfl, rfl, rfl, by decide +kernel, rfl, by decide +kernel, by decide +kernel⟩
def sp_pushed (K : PySem.W.Frag) : Sp := fun vs H Q _ => ∃ (a t : Addr) (ps : List Part) (xs : List Int) (i : Nat) (w : Int), vs = [.ref a, .ref t, .int i, .int w] ∧ TrainAt K H a ps ∧ (∀ p ∈ ps, p.ok) ∧ SqT K H t (xs.map V.int) ∧ StandOk ps xs ∧ i ≤ ps.length ∧ ps.length ≤ 1000 ∧ Sign w ∧
  ∀ q u H', Same H H' → H u = none → H q = none → H' u = some (.tup ((run ps xs i w).1.map V.int)) → H' q = some (.tup [.ref u, .int (run ps xs i w).2]) → Q (.ref q) H'
theorem ok_pushed {f : Addr} {fd : FuncData} {f_part_pushed : Addr} {fd_part_pushed : FuncData} (F : Fun K "pushed" "pushed" S_pushed f fd)
    (F_part_pushed : Fun K "part_pushed" "part_pushed" S_part_pushed f_part_pushed fd_part_pushed) (b_part_pushed : Binds K fd_part_pushed ["part", "place", "way"] []) (g_part_pushed : mg "part_pushed" = some (.ref f_part_pushed)) (G_part_pushed : FnOk P w K mg base CX0 2 f_part_pushed fd_part_pushed ["part", "place", "way"] (sp_part_pushed K)) (m_list : mg "list" = none) (m_range : mg "range" = none) (m_len : mg "len" = none) (m_tuple : mg "tuple" = none) :
    FnOk P w K mg base CX0 3 f fd ["train", "stand", "i", "way"] (sp_pushed K) := by
  refine F.ok sc_pushed (fun vs H Q E h => ?_) (fun cdv A outer s H vs Q E hr h => ?_)
  ·
    obtain ⟨a, t, ps, xs, i, w, rfl, _⟩ := h
    rfl
  ·
    obtain ⟨a, t, ps, xs, i, w, rfl, ⟨vs, hv, hd⟩, hok, hS, hso, hi, hps, hw, q⟩ := h
    refine ⟨_, (pss_cons (ps_set (i := 4) sc_pushed.nd rfl (.inl rfl) (pe_callTy call_list_of (by rfl) m_list (by decide +kernel) (pa_cons (pv 1) pa_nil)))
      (pss_cons (ps_set (i := 5) sc_pushed.nd rfl (.inl rfl) (pv 3))
      (pss_cons (ps_for PassesOwn.never rfl (pi_range2 (by rfl) m_range (pa_cons (pv 2) (pa_cons (pe_callB call_len_seq (by rfl) m_len (by decide +kernel) (pa_cons (pv 0) pa_nil)) pa_nil))) (pg_name (i := 6) sc_pushed.nd rfl (.inl rfl))
      (pss_cons (ps_if (pt_cmpR op_eq (pv 5) pe_int (nomark _)) (pss_one ps_break) pss_nil)
      (pss_one (ps_asg (pe_call G_part_pushed (hr.mono (by decide)) (by rfl) g_part_pushed F_part_pushed.kp b_part_pushed .nil pass0 (pa_cons (pe_ix (r := rIxL K) ix_list (pv 0) (pv 6) (fun _ _ => rfl)) (pa_cons (pe_ix (r := rIxL K) ix_list (pv 4) (pv 6) (fun _ _ => rfl)) (pa_cons (pv 5) pa_nil)))) (pg_tup rfl (pgs_cons (pg_sub (pv 4) (pv 6) set_list) (pgs_cons (pg_name (i := 5) sc_pushed.nd rfl (.inl rfl)) pgs_nil)))))))
      (pss_one (ps_ret (pe_tup (pa_cons (pe_callTy call_tuple_of (by rfl) m_tuple (by decide +kernel) (pa_cons (pv 4) pa_nil)) (pa_cons (pv 5) pa_nil)))))))), ?_⟩
    refine w_st (σ' := [some (.ref a), some (.ref t), some (.int i), some (.int w), none, none, none]) rfl ?_
    have hvl : vs.length = ps.length := by rw [dpAll_len hd, List.length_map]
    have hxl : xs.length = ps.length := hso.1
    walk_at "ct"
    refine ⟨t, _, rfl, .inr hS, fun l nl => ?_⟩
    walk_at "ct"
    refine ⟨a, vs, rfl, .inl ((same_upd nl).seq hv), ?_⟩
    walk_at "ct"
    refine w_RG2 (by omega) (by omega) (by omega) (by omega) ?_
    rw [show ((vs.length : Int) - (i : Int)).toNat = ps.length - i by omega]
    refine fb_range (fun n σ H' => ∃ y, σ = [some (.ref a), some (.ref t), some (.int i), some (.int w), some (.ref l), some (.int (runN ps i (xs, w) n).2), y] ∧ Same H H' ∧ H' l = some (.lst ((runN ps i (xs, w) n).1.map V.int))) ⟨none, rfl, same_upd nl, upd_same⟩ ?_ ?_
    · rintro n σ H' hn ⟨y, rfl, sm, hl⟩
      obtain ⟨p, hp⟩ : ∃ p, ps[i + n]? = some p := ⟨_, List.getElem?_eq_getElem (by omega)⟩
      obtain ⟨v, hv1, hd1⟩ := TrainAt.at (a := a) hd hp
      obtain ⟨x, hx⟩ : ∃ x, xs[i + n]? = some x := ⟨_, List.getElem?_eq_getElem (by omega)⟩
      have hx2 : (runN ps i (xs, w) n).1[i + n]? = some x := by
        rw [runN_ahead ps i (xs, w) n (i + n) (Nat.le_refl _)]
        exact hx
      have hx0 := hso.2 _ _ _ hp hx
      walk_at "ct"
      refine w_ite (fun e => ?_) (fun e => ?_)
      · walk_at "ct"
        have er : run ps xs i w = runN ps i (xs, w) n := by
          unfold Ct.run
          rw [show ps.length - i = n + (ps.length - i - n) by omega]
          exact runN_zero e _
        rw [← er] at hl
        rw [← er]
        refine ⟨l, _, rfl, .inl ⟨.of hl, fun u nu => ?_⟩⟩
        walk_at "ct"
        refine ⟨len2 rfl, fun p np => ?_⟩
        have s2 : Same H (upd H' u (.tup ((run ps xs i w).1.map V.int))) := same_new sm (sm.free nu)
        exact q p u _ (same_new s2 (s2.free np)) (sm.free nu) (s2.free np) (by rw [upd_ne (ne_of_none upd_same np)]; exact upd_same) upd_same
      ·
        walk_at "ct"
        refine w_ixL (sm.seq hv) (at_of (j := i + n) (by omega) hv1) ?_
        walk_at "ct"
        refine w_ixL (.of hl) (at_of (j := i + n) (by omega) (by rw [List.getElem?_map, hx2]; rfl)) ?_
        walk_at "ct"
        refine ⟨v, p, x, _, rfl, dp_same sm hd1, hok p (List.mem_of_getElem? hp), hx0.1, hx0.2, (runN_sign ps i (xs, w) hw n).resolve_left e, fun u H1 s1 n1 hu => ?_⟩
        refine w_gtup (.of hu) rfl ?_
        walk_at "ct"
        refine w_setL (s1 _ _ hl) (ix_at (j := i + n) (by omega) (by rw [List.length_map, runN_len]; show i + n < xs.length; omega)) ?_
        walk_at "ct"
        have er : runN ps i (xs, w) (n + 1) = ((runN ps i (xs, w) n).1.set (i + n) (pp p x (runN ps i (xs, w) n).2).1, (pp p x (runN ps i (xs, w) n).2).2) := stp_at e hp hx2
        refine ⟨some (.int ((i : Int) + (n : Int))), ?_, same_new (sm.trans s1) nl, ?_⟩
        · rw [er]
        · rw [er, upd_same, List.map_set]
    · rintro σ H' ⟨y, rfl, sm, hl⟩
      ·
        walk_at "ct"
        refine ⟨l, _, rfl, .inl ⟨.of hl, fun u nu => ?_⟩⟩
        walk_at "ct"
        refine ⟨len2 rfl, fun p np => ?_⟩
        have s2 : Same H (upd H' u (.tup ((run ps xs i w).1.map V.int))) := same_new sm (sm.free nu)
        exact q p u _ (same_new s2 (s2.free np)) (sm.free nu) (s2.free np) (by rw [upd_ne (ne_of_none upd_same np)]; exact upd_same) upd_same
abbrev S_is_sign : Stmt := topS 21
theorem sc_is_sign : FnScope ["thing"] ["thing"] (defScope S_is_sign) := ⟨rfl, rfl, rfl, by decide +kernel, rfl, by decide +kernel, by decide +kernel⟩
def sp_is_sign (K : PySem.W.Frag) : Sp := fun vs H Q _ => ∃ (v : V) (d : PyData), vs = [v] ∧ Dp K H v d ∧ ∀ H', Same H H' → Q (.bl (isSg d)) H'
theorem ok_is_sign {f : Addr} {fd : FuncData} {f_is_whole : Addr} {fd_is_whole : FuncData} (F : Fun K "is_sign" "is_sign" S_is_sign f fd)
    (F_is_whole : Fun K "is_whole" "is_whole" S_is_whole f_is_whole fd_is_whole) (b_is_whole : Binds K fd_is_whole ["thing"] []) (g_is_whole : mg "is_whole" = some (.ref f_is_whole)) (G_is_whole : FnOk P w K mg base CX0 1 f_is_whole fd_is_whole ["thing"] (sp_is_whole K)) :
    FnOk P w K mg base CX0 2 f fd ["thing"] (sp_is_sign K) := by
  refine F.ok sc_is_sign (fun vs H Q E h => ?_) (fun cdv A outer s H vs Q E hr h => ?_)
  ·
    obtain ⟨v, d, rfl, _⟩ := h
    rfl
  ·
    obtain ⟨v, d, rfl, hd, q⟩ := h
    refine ⟨_, (pss_one (ps_ret (pe_and (pe_call G_is_whole (hr.mono (by decide)) (by rfl) g_is_whole F_is_whole.kp b_is_whole .nil pass0 (pa_cons (pv 0) pa_nil)) (pe_one (pe_cmpR (r := rIn K false) op_in_seq (pv 0) (pe_tup (pa_cons pe_int (pa_cons (pe_un un_neg pe_int) (pa_cons pe_int pa_nil)))) (by rfl)))))), ?_⟩
    refine w_st (σ' := [some v]) rfl ?_
    walk_at "ct"
    refine ⟨v, d, rfl, hd, ?_⟩
    cases hd with
    | int i =>
      refine w_bl ?_
      refine iteT ?_
      walk_at "ct"
      refine ⟨len2 rfl, fun p np => ?_⟩
      refine w_inT (ns := [1, -1, 0]) (.of upd_same) ?_
      exact q _ (same_upd np)
    | non => exact w_bl (iteF (q H (Same.refl H)))
    | bl b => exact w_bl (iteF (q H (Same.refl H)))
    | str s => exact w_bl (iteF (q H (Same.refl H)))
    | lst g1 g2 => exact w_bl (iteF (q H (Same.refl H)))
    | tup g1 g2 => exact w_bl (iteF (q H (Same.refl H)))
abbrev S_fed : Stmt := topS 22
theorem sc_fed : FnScope ["train", "stand", "signs", "shown", "sign", "given", "thing"] ["train", "stand", "signs"] (defScope S_fed) := ⟨rfl, rfl, rfl, by decide +kernel, rfl, by decide +kernel, by decide +kernel⟩
def sp_fed (K : PySem.W.Frag) (T : List Addr) : Sp := fun vs H Q _ => ∃ (a t b : Addr) (ps : List Part) (xs ss : List Int), vs = [.ref a, .ref t, .ref b] ∧ TrainAt K H a ps ∧ (∀ p ∈ ps, p.ok) ∧ 1 ≤ ps.length ∧ ps.length ≤ 1000 ∧ SqT K H t (xs.map V.int) ∧ StandOk ps xs ∧ SqL K H b (ss.map V.int) ∧ (∀ s ∈ ss, s = 0 ∨ Sign s) ∧ ss.length ≤ 1000 ∧ Tb T H ∧
  ∀ l u g H', Same H H' → H l = none → H' l = some (.lst ((fedS ps xs ss).2.map V.int)) → SqT K H' u ((fedS ps xs ss).1.map V.int) → H' g = some (.tup [.ref u, .ref l]) → Q (.ref g) H'
theorem ok_fed {f : Addr} {fd : FuncData} {f_pushed : Addr} {fd_pushed : FuncData} {f_is_sign : Addr} {fd_is_sign : FuncData} {f_check_stand : Addr} {fd_check_stand : FuncData} {T : List Addr} {cT PT : Addr} (F : Fun K "fed" "fed" S_fed f fd)
    (F_pushed : Fun K "pushed" "pushed" S_pushed f_pushed fd_pushed) (b_pushed : Binds K fd_pushed ["train", "stand", "i", "way"] []) (g_pushed : mg "pushed" = some (.ref f_pushed)) (G_pushed : FnOk P w K mg base CX0 3 f_pushed fd_pushed ["train", "stand", "i", "way"] (sp_pushed K))
    (F_is_sign : Fun K "is_sign" "is_sign" S_is_sign f_is_sign fd_is_sign) (b_is_sign : Binds K fd_is_sign ["thing"] []) (g_is_sign : mg "is_sign" = some (.ref f_is_sign)) (G_is_sign : FnOk P w K mg base CX0 2 f_is_sign fd_is_sign ["thing"] (sp_is_sign K))
    (F_check_stand : Fun K "check_stand" "check_stand" S_check_stand f_check_stand fd_check_stand) (b_check_stand : Binds K fd_check_stand ["train", "stand"] []) (g_check_stand : mg "check_stand" = some (.ref f_check_stand)) (G_check_stand : FnOk P w K mg base CX0 5 f_check_stand fd_check_stand ["train", "stand"] (sp_check_stand K)) (m_isinstance : mg "isinstance" = none) (m_list : mg "list" = none) (m_all : mg "all" = none)
    (TB_fed : GxR.TabB base mg cT PT) (HC_fed : fd.code = .ref cT) (tm : PT ∈ T) :
    FnOk P w K mg base CX0 7 f fd ["train", "stand", "signs"] (sp_fed K T) := by
  refine okC F sc_fed (fun vs H Q E h => ?_) (fun A outer s H vs Q E hr h => ?_)
  ·
    obtain ⟨a, t, b, ps, xs, ss, rfl, _⟩ := h
    rfl
  ·
    obtain ⟨a, t, b, ps, xs, ss, rfl, hT, hok, hps, hps2, hS, hso, hG, hss, hsl, hTb, q⟩ := h
    refine ⟨_, (pss_cons (ps_expr (pe_call G_check_stand (hr.mono (by decide)) (by rfl) g_check_stand F_check_stand.kp b_check_stand .nil pass0 (pa_cons (pv 0) (pa_cons (pv 1) pa_nil))))
      (pss_cons (ps_if (PW.pt (pw_or (pt_not (pt_val (pe_callB (r := rIsi K) call_isi (by rfl) m_isinstance (by decide +kernel) (pa_cons (pv 2) (pa_cons (pe_bltn (v := .ty "list") (u := .type "list") (by rfl) m_list (by decide +kernel) rfl) pa_nil))))) (pw_or1 (pt_not (pt_val (pe_allX (own := [("thing", 6)]) (g := (gName 6)) hr (by rfl) m_all rfl sc_fed.nd TB_fed HC_fed (pi_list (pv 2)) (blkOk_by (own := [("thing", 6)]) (N := ["train", "stand", "signs", "shown", "sign", "given", "thing"]) (sc := defScope S_fed) (by decide +kernel)) (by decide +kernel) rfl (by decide +kernel) (fun _ _ _ _ _ _ _ _ => (pg_name (i := 6) sc_fed.nd rfl (Or.inl rfl))) (fun _ _ _ _ _ _ _ _ hr => (pe_call G_is_sign (hr.mono (by decide)) (by rfl) g_is_sign F_is_sign.kp b_is_sign .nil pass0 (pa_cons (pv 6) pa_nil))))))))) (pss_one ps_never) pss_nil)
      (pss_cons (ps_set (i := 3) sc_fed.nd rfl (.inl rfl) (pe_lst pa_nil))
      (pss_cons (ps_for PassesOwn.never rfl (pi_list (pv 2)) (pg_name (i := 4) sc_fed.nd rfl (.inl rfl))
      (pss_cons (ps_set (i := 5) sc_fed.nd rfl (.inl rfl) pe_int)
      (pss_cons (ps_if (pt_cmpR op_ne (pv 4) pe_int (nomark _)) (pss_one (ps_asg (pe_call G_pushed (hr.mono (by decide)) (by rfl) g_pushed F_pushed.kp b_pushed .nil pass0 (pa_cons (pv 0) (pa_cons (pv 1) (pa_cons pe_int (pa_cons (pv 4) pa_nil))))) (pg_tup rfl (pgs_cons (pg_name (i := 1) sc_fed.nd rfl (.inl rfl)) (pgs_cons (pg_name (i := 5) sc_fed.nd rfl (.inl rfl)) pgs_nil))))) pss_nil)
      (pss_one (ps_expr (pe_bm PySem.F.plainAttrs_list PySem.F.slot_list_append PySem.F.type_list_append mt_append (pv 3) (pa_cons (pv 5) pa_nil)))))))
      (pss_one (ps_ret (pe_tup (pa_cons (pv 1) (pa_cons (pv 3) pa_nil))))))))), ?_⟩
    refine w_st (σ' := [some (.ref a), some (.ref t), some (.ref b), none, none, none, none]) rfl ?_
    have hstl := standL_of hok hso
    walk_at "ct"
    refine ⟨a, t, ps, xs, rfl, hT, hok, hps, hS, hso, fun H1 s1 => ?_⟩
    walk_at "ct"
    refine w_isi (b := true) (tyx_L (s1.seq hG)) (kit_ty (by decide +kernel)) ?_
    walk_at "ct"
    refine w_IL (s1.seq hG) ?_
    refine gb_list (ss.map V.int) (fun i H2 => Same H1 H2) ((hTb.same s1) _ tm) (Same.refl _) (fun i H2 _ s2 => (s1.trans s2).seq hG) ?_ ?_
    · rintro i x H2 hx s2
      obtain ⟨c, hc, rfl⟩ : ∃ c : Int, (c = 0 ∨ Sign c) ∧ x = .int c := by
        obtain ⟨k, hk, rfl⟩ := List.mem_map.mp (List.mem_of_getElem? hx)
        exact ⟨k, hss k hk, rfl⟩
      walk_at "ct"
      refine ⟨rfl, ?_⟩
      walk_at "ct"
      refine ⟨_, .int c, rfl, .int c, fun H3 s3 => ⟨_, rfl, ?_⟩⟩
      rw [isSg_of hc, if_neg (by decide)]
      exact s2.trans s3
    · intro H2 s2
      have s12 := s1.trans s2
      walk_at "ct"
      refine ⟨len2 rfl, fun l nl => ?_⟩
      walk_at "ct"
      refine w_IL ((s12.trans (same_upd nl)).seq hG) ?_
      have nl0 : H l = none := s12.free nl
      refine fb_list (ss.map V.int) (fun k σ H3 => ∃ (u : Addr) (y4 y5 : Option V), σ = [some (.ref a), some (.ref u), some (.ref b), some (.ref l), y4, y5, none] ∧ Same H H3 ∧ H3 l = some (.lst ((fedS ps xs (ss.take k)).2.map V.int)) ∧ SqT K H3 u ((fedS ps xs (ss.take k)).1.map V.int))
        ⟨t, none, none, rfl, s12.trans (same_upd nl), upd_same, Same.tup (s12.trans (same_upd nl)) hS⟩ ?_ ?_ ?_
      · rintro k σ H3 _ ⟨u, y4, y5, rfl, s3, _⟩
        exact s3.seq hG
      · rintro k x σ H3 hx ⟨u, y4, y5, rfl, s3, hl, hu⟩
        obtain ⟨c, hc, rfl⟩ : ∃ c : Int, ss[k]? = some c ∧ x = .int c := by
          rw [List.getElem?_map] at hx
          cases e : ss[k]? with
          | none => rw [e] at hx; cases hx
          | some c => rw [e] at hx; exact ⟨c, rfl, (Option.some.inj hx).symm⟩
        have hk : k < ss.length := (List.getElem?_eq_some_iff.mp hc).1
        have hcs := hss c (List.mem_of_getElem? hc)
        have hst := fedS_stand (ss := ss.take k) hps hstl fun s hs => hss s (List.mem_of_mem_take hs)
        have ft := fedS_take (ps := ps) xs hc
        have fl : (fedS ps xs (ss.take k)).2.length ≤ 1000 := by
          rw [fedS_len, List.length_take]
          omega
        walk_at "ct"
        refine w_iteN (fun e => ?_) (fun e => ?_)
        · walk_at "ct"
          refine ⟨a, u, ps, _, 0, c, rfl, hT.same s3, hok, hu, hst.ok, by omega, hps2, hcs.resolve_left e, fun g v H4 s4 _ _ hv hg => ?_⟩
          refine w_gtup (.of hg) rfl ?_
          walk_at "ct"
          have hl4 := s4 _ _ hl
          refine ⟨ty_list hl4, ?_⟩
          walk_at "ct"
          refine w_append hl4 (by rw [List.length_map]; exact small1000 fl) ?_
          walk_at "ct"
          refine ⟨v, _, _, rfl, same_new (s3.trans s4) nl0, ?_, ?_⟩
          · rw [upd_same, ft, List.map_append]
            rfl
          · rw [ft]
            exact sqT_upd (.of hv) hl4
        · walk_at "ct"
          refine ⟨ty_list hl, ?_⟩
          walk_at "ct"
          refine w_append hl (by rw [List.length_map]; exact small1000 fl) ?_
          walk_at "ct"
          rw [e, run_zero] at ft
          refine ⟨u, _, _, rfl, same_new s3 nl0, ?_, ?_⟩
          · rw [upd_same, ft, List.map_append]
            rfl
          · rw [ft]
            exact sqT_upd hu hl
      · rintro σ H3 ⟨u, y4, y5, rfl, s3, hl, hu⟩
        rw [List.length_map, List.take_length] at hl hu
        walk_at "ct"
        refine ⟨len2 rfl, fun g ng => ?_⟩
        have s4 : Same H3 (upd H3 g (.tup [.ref u, .ref l])) := same_upd ng
        exact q l u g _ (s3.trans s4) nl0 (s4 _ _ hl) (Same.tup s4 hu) upd_same
abbrev S_is_show : Stmt := topS 24
theorem sc_is_show : FnScope ["thing"] ["thing"] (defScope S_is_show) := ⟨rfl, rfl, rfl, by decide +kernel, rfl, by decide +kernel, by decide +kernel⟩
def sp_is_show (K : PySem.W.Frag) : Sp := fun vs H Q _ => ∃ (v : V) (s : Int × Int), vs = [v] ∧ Dp K H v (sh2D s) ∧ Sh2Ok s ∧ ∀ H', Same H H' → Q (.bl true) H'
theorem ok_is_show {f : Addr} {fd : FuncData} {f_is_whole : Addr} {fd_is_whole : FuncData} {f_is_way : Addr} {fd_is_way : FuncData} (F : Fun K "is_show" "is_show" S_is_show f fd)
    (F_is_whole : Fun K "is_whole" "is_whole" S_is_whole f_is_whole fd_is_whole) (b_is_whole : Binds K fd_is_whole ["thing"] []) (g_is_whole : mg "is_whole" = some (.ref f_is_whole)) (G_is_whole : FnOk P w K mg base CX0 1 f_is_whole fd_is_whole ["thing"] (sp_is_whole K))
    (F_is_way : Fun K "is_way" "is_way" S_is_way f_is_way fd_is_way) (b_is_way : Binds K fd_is_way ["thing"] []) (g_is_way : mg "is_way" = some (.ref f_is_way)) (G_is_way : FnOk P w K mg base CX0 2 f_is_way fd_is_way ["thing"] (sp_is_way K)) (m_isinstance : mg "isinstance" = none) (m_tuple : mg "tuple" = none) (m_len : mg "len" = none) :
    FnOk P w K mg base CX0 3 f fd ["thing"] (sp_is_show K) := by
  refine F.ok sc_is_show (fun vs H Q E h => ?_) (fun cdv A outer s H vs Q E hr h => ?_)
  ·
    obtain ⟨v, s, rfl, _⟩ := h
    rfl
  ·
    obtain ⟨v, z, rfl, hd, ok, q⟩ := h
    obtain ⟨a, rfl, ha⟩ := sh2_inv hd
    refine ⟨_, (pss_cons (ps_if (PW.pt (pw_or (pt_not (pt_val (pe_callB (r := rIsi K) call_isi (by rfl) m_isinstance (by decide +kernel) (pa_cons (pv 0) (pa_cons (pe_bltn (v := .ty "tuple") (u := .type "tuple") (by rfl) m_tuple (by decide +kernel) rfl) pa_nil))))) (pw_or1 (pt_cmpR op_ne (pe_callB call_len_seq (by rfl) m_len (by decide +kernel) (pa_cons (pv 0) pa_nil)) pe_int (nomark _))))) (pss_one (ps_ret pe_bl)) pss_nil)
      (pss_one (ps_ret (pe_and (pe_call G_is_way (hr.mono (by decide)) (by rfl) g_is_way F_is_way.kp b_is_way .nil pass0 (pa_cons (pe_ix (r := rIxT K) ix_tup (pv 0) pe_int (fun _ _ => rfl)) pa_nil)) (pe_and (pe_call G_is_whole (hr.mono (by decide)) (by rfl) g_is_whole F_is_whole.kp b_is_whole .nil pass0 (pa_cons (pe_ix (r := rIxT K) ix_tup (pv 0) pe_int (fun _ _ => rfl)) pa_nil)) (pe_one (pe_cmpR (r := rIn K false) op_in_seq (pe_ix (r := rIxT K) ix_tup (pv 0) pe_int (fun _ _ => rfl)) (pe_tup (pa_cons pe_int (pa_cons (pe_un un_neg pe_int) (pa_cons pe_int pa_nil)))) (by rfl)))))))), ?_⟩
    refine w_st (σ' := [some (.ref a)]) rfl ?_
    walk_at "ct"
    refine w_isi (b := true) (tyx_T ha) (kit_ty (by decide +kernel)) ?_
    walk_at "ct"
    refine ⟨a, _, rfl, .inr ha, ?_⟩
    walk_at "ct"
    refine w_iteN (fun e => absurd rfl e) (fun _ => ?_)
    walk_at "ct"
    refine ⟨_, _, rfl, .int z.1, fun H1 s1 => ?_⟩
    have hway : isWay (.int z.1) = true := by
      rcases ok.1 with e | e
      · rw [e]; rfl
      · rw [e]; rfl
    rw [hway]
    have ha1 := Same.tup s1 ha
    walk_at "ct"
    refine ⟨_, _, rfl, .int z.2, ?_⟩
    rw [show isW (.int z.2) = true from rfl]
    walk_at "ct"
    refine ⟨len2 rfl, fun p np => ?_⟩
    have s2 := same_upd (o := .tup [.int 1, .int (-1), .int 0]) np
    refine w_inT (ns := [1, -1, 0]) (.of upd_same) ?_
    rw [decide_eq_true (show z.2 ∈ [(1 : Int), -1, 0] by
      rcases ok.2 with e | e | e <;> rw [e] <;> decide)]
    exact q _ (s1.trans s2)
abbrev S_check_shows : Stmt := topS 25
theorem sc_check_shows : FnScope ["shows", "thing"] ["shows"] (defScope S_check_shows) := ⟨rfl, rfl, rfl, by decide +kernel, rfl, by decide +kernel, by decide +kernel⟩
def sp_check_shows (K : PySem.W.Frag) (T : List Addr) : Sp := fun vs H Q _ => ∃ (b : Addr) (ws : List V) (ss : List (Int × Int)), vs = [.ref b] ∧ SqL K H b ws ∧ DpAll K H ws (ss.map sh2D) ∧ (∀ s ∈ ss, Sh2Ok s) ∧ Tb T H ∧ ∀ H', Same H H' → Q .non H'
theorem ok_check_shows {f : Addr} {fd : FuncData} {f_is_show : Addr} {fd_is_show : FuncData} {T : List Addr} {cT PT : Addr} (F : Fun K "check_shows" "check_shows" S_check_shows f fd)
    (F_is_show : Fun K "is_show" "is_show" S_is_show f_is_show fd_is_show) (b_is_show : Binds K fd_is_show ["thing"] []) (g_is_show : mg "is_show" = some (.ref f_is_show)) (G_is_show : FnOk P w K mg base CX0 3 f_is_show fd_is_show ["thing"] (sp_is_show K)) (m_isinstance : mg "isinstance" = none) (m_list : mg "list" = none) (m_all : mg "all" = none)
    (TB_check_shows : GxR.TabB base mg cT PT) (HC_check_shows : fd.code = .ref cT) (tm : PT ∈ T) :
    FnOk P w K mg base CX0 5 f fd ["shows"] (sp_check_shows K T) := by
  refine okC F sc_check_shows (fun vs H Q E h => ?_) (fun A outer s H vs Q E hr h => ?_)
  ·
    obtain ⟨b, ws, ss, rfl, _⟩ := h
    rfl
  ·
    obtain ⟨b, ws, ss, rfl, hb, hbd, hss, hTb, q⟩ := h
    refine ⟨_, (pss_one (ps_if (PW.pt (pw_or (pt_not (pt_val (pe_callB (r := rIsi K) call_isi (by rfl) m_isinstance (by decide +kernel) (pa_cons (pv 0) (pa_cons (pe_bltn (v := .ty "list") (u := .type "list") (by rfl) m_list (by decide +kernel) rfl) pa_nil))))) (pw_or1 (pt_not (pt_val (pe_allX (own := [("thing", 1)]) (g := (gName 1)) hr (by rfl) m_all rfl sc_check_shows.nd TB_check_shows HC_check_shows (pi_list (pv 0)) (blkOk_by (own := [("thing", 1)]) (N := ["shows", "thing"]) (sc := defScope S_check_shows) (by decide +kernel)) (by decide +kernel) rfl (by decide +kernel) (fun _ _ _ _ _ _ _ _ => (pg_name (i := 1) sc_check_shows.nd rfl (Or.inl rfl))) (fun _ _ _ _ _ _ _ _ hr => (pe_call G_is_show (hr.mono (by decide)) (by rfl) g_is_show F_is_show.kp b_is_show .nil pass0 (pa_cons (pv 1) pa_nil))))))))) (pss_one ps_never) pss_nil)), ?_⟩
    refine w_st (σ' := [some (.ref b), none]) rfl ?_
    have wl : ws.length = ss.length := by rw [dpAll_len hbd, List.length_map]
    walk_at "ct"
    refine w_isi (b := true) (tyx_L hb) (kit_ty (by decide +kernel)) ?_
    walk_at "ct"
    refine w_IL hb ?_
    refine gb_list ws (fun i H2 => Same H H2) (hTb _ tm) (Same.refl _) (fun i H2 _ s2 => s2.seq hb) ?_ ?_
    · rintro i x H2 hx s2
      have hi : i < ws.length := (List.getElem?_eq_some_iff.mp hx).1
      obtain ⟨z, hz⟩ : ∃ z, ss[i]? = some z := ⟨_, List.getElem?_eq_getElem (by omega)⟩
      obtain ⟨v', hv1, hd1⟩ := dpAll_get hbd (i := i) (d := sh2D z) (by rw [List.getElem?_map, hz]; rfl)
      cases Option.some.inj (hx.symm.trans hv1)
      walk_at "ct"
      refine ⟨rfl, ?_⟩
      walk_at "ct"
      refine ⟨x, z, rfl, dp_same s2 hd1, hss z (List.mem_of_getElem? hz), fun H3 s3 => ⟨_, rfl, ?_⟩⟩
      rw [if_neg (by decide)]
      exact s2.trans s3
    · intro H2 s2
      walk_at "ct"
      exact q H2 s2
abbrev S_passes_of : Stmt := topS 26
theorem sc_passes_of : FnScope ["comes", "shows", "passes", "total", "came", "way", "shown", "tooth"] ["comes", "shows"] (defScope S_passes_of) := ⟨rfl, rfl, rfl, by decide +kernel, rfl, by decide +kernel, by decide +kernel⟩
def sp_passes_of (K : PySem.W.Frag) : Sp := fun vs H Q _ => ∃ (a b : Addr) (cs : List Int) (ws : List V) (ss : List (Int × Int)), vs = [.ref a, .ref b] ∧ SqL K H a (cs.map V.int) ∧ SqL K H b ws ∧ DpAll K H ws (ss.map sh2D) ∧ cs.length = ss.length ∧ ss.length ≤ 1000 ∧
  ∀ l us H', Same H H' → H l = none → H' l = some (.lst us) → DpAll K H' us ((passN cs ss ss.length).map passD) → Q (.ref l) H'
theorem ok_passes_of {f : Addr} {fd : FuncData} (F : Fun K "passes_of" "passes_of" S_passes_of f fd) (m_zip : mg "zip" = none) :
    FnOk P w K mg base CX0 1 f fd ["comes", "shows"] (sp_passes_of K) := by
  refine F.ok sc_passes_of (fun vs H Q E h => ?_) (fun cdv A outer s H vs Q E hr h => ?_)
  ·
    obtain ⟨a, b, cs, ws, ss, rfl, _⟩ := h
    rfl
  ·
    obtain ⟨a, b, cs, ws, ss, rfl, ha, hb, hd, cl, sl, q⟩ := h
    refine ⟨_, (pss_cons (ps_set (i := 2) sc_passes_of.nd rfl (.inl rfl) (pe_lst pa_nil))
      (pss_cons (ps_set (i := 3) sc_passes_of.nd rfl (.inl rfl) pe_int)
      (pss_cons (ps_for PassesOwn.never rfl (pi_zip (by rfl) m_zip (pa_cons (pv 0) (pa_cons (pv 1) pa_nil))) (pg_tup rfl (pgs_cons (pg_name (i := 4) sc_passes_of.nd rfl (.inl rfl)) (pgs_cons (pg_tup rfl (pgs_cons (pg_name (i := 5) sc_passes_of.nd rfl (.inl rfl)) (pgs_cons (pg_name (i := 6) sc_passes_of.nd rfl (.inl rfl)) pgs_nil))) pgs_nil)))
      (pss_cons (ps_set (i := 7) sc_passes_of.nd rfl (.inl rfl) (pe_ifExp (pt_cmpR op_eq (pv 4) pe_int (nomark _)) (pe_op op_add (pv 3) pe_int) (pv 3)))
      (pss_cons (ps_expr (pe_bm PySem.F.plainAttrs_list PySem.F.slot_list_append PySem.F.type_list_append mt_append (pv 2) (pa_cons (pe_tup (pa_cons (pv 4) (pa_cons (pv 7) (pa_cons (pv 6) pa_nil)))) pa_nil)))
      (pss_one (ps_aug (i := 3) sc_passes_of.nd rfl (.inl rfl) (pv 4) ip_add)))))
      (pss_one (ps_ret (pv 2)))))), ?_⟩
    refine w_st (σ' := [some (.ref a), some (.ref b), none, none, none, none, none, none]) rfl ?_
    have wl : ws.length = ss.length := by rw [dpAll_len hd, List.length_map]
    walk_at "ct"
    refine ⟨len2 rfl, fun l nl => ?_⟩
    have s1 : Same H (upd H l (.lst [])) := same_upd nl
    have h1 : (upd H l (.lst [])) l = some (.lst []) := upd_same
    generalize upd H l _ = H1 at *
    walk_at "ct"
    refine w_izip ?_
    walk_at "ct"
    refine w_IZL (s1.seq ha) (s1.seq hb) ?_
    refine fb_zipL (cs.map V.int) ws (by rw [List.length_map]; omega) (fun n σ G => ∃ (y4 y5 y6 y7 : Option V) (us : List V), σ = [some (.ref a), some (.ref b), some (.ref l), some (.int (cs.take n).sum), y4, y5, y6, y7] ∧ Same H G ∧ G l = some (.lst us) ∧ us.length ≤ n ∧ DpAll K G us ((passN cs ss n).map passD)) ⟨none, none, none, none, [], rfl, s1, h1, Nat.le_refl _, .nil⟩ ?_ ?_ ?_
    · rintro n σ G _ ⟨y4, y5, y6, y7, us, rfl, sG, _⟩
      exact ⟨sG.seq ha, sG.seq hb⟩
    · rintro n x y Tp σ G hx hy ⟨y4, y5, y6, y7, us, rfl, sG, hl, ul, hu⟩ nT
      have hn : n < ws.length := (List.getElem?_eq_some_iff.mp hy).1
      obtain ⟨c, hc, rfl⟩ : ∃ c : Int, cs[n]? = some c ∧ x = .int c := by
        rw [List.getElem?_map] at hx
        cases e : cs[n]? with
        | none => rw [e] at hx; cases hx
        | some c => rw [e] at hx; exact ⟨c, rfl, (Option.some.inj hx).symm⟩
      obtain ⟨z, hz⟩ : ∃ z, ss[n]? = some z := ⟨_, List.getElem?_eq_getElem (by omega)⟩
      obtain ⟨v', hv1, hd1⟩ := dpAll_get hd (i := n) (d := sh2D z) (by rw [List.getElem?_map, hz]; rfl)
      cases Option.some.inj (hy.symm.trans hv1)
      have sT : Same G (upd G Tp (.tup [.int c, y])) := same_upd nT
      have hT : (upd G Tp (.tup [.int c, y])) Tp = some (.tup [.int c, y]) := upd_same
      generalize upd G Tp _ = G1 at *
      have s3 := sG.trans sT
      have hl3 := sT _ _ hl
      obtain ⟨g, rfl, hg⟩ := sh2_inv (dp_same s3 hd1)
      refine w_gtup (.of hT) rfl ?_
      walk_at "ct"
      refine w_gtup hg rfl ?_
      walk_at "ct"
      have tk : (cs.take (n + 1)).sum = (cs.take n).sum + c := by
        rw [List.take_add_one, hc, Option.toList_some, List.sum_append]
        simp
      have eP : passN cs ss (n + 1) = passN cs ss n ++ [(c, (if c = 1 then (cs.take n).sum + 1 else (cs.take n).sum), z.2)] := by rw [passN, hc, hz]
      have fin : ∀ (t : Int) (y7' : Option V), t = (if c = 1 then (cs.take n).sum + 1 else (cs.take n).sum) → ∀ g7, G1 g7 = none → (∃ (y4 y5 y6 y7 : Option V) (us' : List V), [some (.ref a), some (.ref b), some (.ref l), some (.int ((cs.take n).sum + c)), some (.int c), some (.int z.1), some (.int z.2), some (.int t)] = [some (.ref a), some (.ref b), some (.ref l), some (.int (cs.take (n + 1)).sum), y4, y5, y6, y7] ∧ Same H (upd (upd G1 g7 (.tup [.int c, .int t, .int z.2])) l (.lst (us ++ [.ref g7]))) ∧ (upd (upd G1 g7 (.tup [.int c, .int t, .int z.2])) l (.lst (us ++ [.ref g7]))) l = some (.lst us') ∧ us'.length ≤ n + 1 ∧ DpAll K (upd (upd G1 g7 (.tup [.int c, .int t, .int z.2])) l (.lst (us ++ [.ref g7]))) us' ((passN cs ss (n + 1)).map passD)) := fun t _ et g7 ng7 => by
        have u : Same G1 (upd G1 g7 (.tup [.int c, .int t, .int z.2])) := same_upd ng7
        refine ⟨_, _, _, _, us ++ [.ref g7], by rw [tk], same_new (s3.trans u) nl, upd_same, by rw [List.length_append]; show us.length + 1 ≤ n + 1; omega, ?_⟩
        rw [eP, List.map_append]
        exact dpAll_app (passes_upd (u _ _ hl3) (dpAll_same (sT.trans u) hu)) (.cons (pass_upd (u _ _ hl3) (by rw [← et]; exact .tup (.of upd_same) (.cons (.int _) (.cons (.int _) (.cons (.int _) .nil))))) .nil)
      refine w_ite (fun e => ?_) (fun e => ?_)
      · walk_at "ct"
        refine ⟨ty_list hl3, ?_⟩
        walk_at "ct"
        refine ⟨len2 rfl, fun g7 ng7 => ?_⟩
        walk_at "ct"
        refine w_append ((same_upd ng7) _ _ hl3) (small1000 (by omega)) ?_
        refine w_aug rfl ?_
        walk_at "ct"
        exact fin _ none (by rw [if_pos e]) g7 ng7
      · walk_at "ct"
        refine ⟨ty_list hl3, ?_⟩
        walk_at "ct"
        refine ⟨len2 rfl, fun g7 ng7 => ?_⟩
        walk_at "ct"
        refine w_append ((same_upd ng7) _ _ hl3) (small1000 (by omega)) ?_
        refine w_aug rfl ?_
        walk_at "ct"
        exact fin _ none (by rw [if_neg e]) g7 ng7
    · rintro σ G ⟨y4, y5, y6, y7, us, rfl, sG, hl, ul, hu⟩
      rw [List.length_map, cl] at hu
      walk_at "ct"
      exact q l us G sG nl hl hu
abbrev S_passes_behind : Stmt := topS 27
theorem sc_passes_behind : FnScope ["train", "stand", "shows", "after", "comes", "way", "shown"] ["train", "stand", "shows"] (defScope S_passes_behind) := ⟨rfl, rfl, rfl, by decide +kernel, rfl, by decide +kernel, by decide +kernel⟩
def sp_passes_behind (K : PySem.W.Frag) (T : List Addr) : Sp := fun vs H Q _ => ∃ (a t b : Addr) (ps : List Part) (xs : List Int) (ws : List V) (ss : List (Int × Int)), vs = [.ref a, .ref t, .ref b] ∧ TrainAt K H a ps ∧ (∀ p ∈ ps, p.ok) ∧ 1 ≤ ps.length ∧ ps.length ≤ 1000 ∧ SqT K H t (xs.map V.int) ∧ StandOk ps xs ∧ SqL K H b ws ∧ DpAll K H ws (ss.map sh2D) ∧ (∀ s ∈ ss, Sh2Ok s) ∧ ss.length ≤ 1000 ∧ Tb T H ∧
  ∀ l us H', Same H H' → H l = none → H' l = some (.lst us) → DpAll K H' us ((passN (fedS ps xs (ss.map (·.1))).2 ss ss.length).map passD) → Q (.ref l) H'
theorem ok_passes_behind {f : Addr} {fd : FuncData} {f_passes_of : Addr} {fd_passes_of : FuncData} {f_fed : Addr} {fd_fed : FuncData} {f_check_shows : Addr} {fd_check_shows : FuncData} {f_check_stand : Addr} {fd_check_stand : FuncData} {T : List Addr} (F : Fun K "passes_behind" "passes_behind" S_passes_behind f fd)
    (F_passes_of : Fun K "passes_of" "passes_of" S_passes_of f_passes_of fd_passes_of) (b_passes_of : Binds K fd_passes_of ["comes", "shows"] []) (g_passes_of : mg "passes_of" = some (.ref f_passes_of)) (G_passes_of : FnOk P w K mg base CX0 1 f_passes_of fd_passes_of ["comes", "shows"] (sp_passes_of K))
    (F_fed : Fun K "fed" "fed" S_fed f_fed fd_fed) (b_fed : Binds K fd_fed ["train", "stand", "signs"] []) (g_fed : mg "fed" = some (.ref f_fed)) (G_fed : FnOk P w K mg base CX0 7 f_fed fd_fed ["train", "stand", "signs"] (sp_fed K T))
    (F_check_shows : Fun K "check_shows" "check_shows" S_check_shows f_check_shows fd_check_shows) (b_check_shows : Binds K fd_check_shows ["shows"] []) (g_check_shows : mg "check_shows" = some (.ref f_check_shows)) (G_check_shows : FnOk P w K mg base CX0 5 f_check_shows fd_check_shows ["shows"] (sp_check_shows K T))
    (F_check_stand : Fun K "check_stand" "check_stand" S_check_stand f_check_stand fd_check_stand) (b_check_stand : Binds K fd_check_stand ["train", "stand"] []) (g_check_stand : mg "check_stand" = some (.ref f_check_stand)) (G_check_stand : FnOk P w K mg base CX0 5 f_check_stand fd_check_stand ["train", "stand"] (sp_check_stand K)) :
    FnOk P w K mg base CX0 8 f fd ["train", "stand", "shows"] (sp_passes_behind K T) := by
  refine F.ok sc_passes_behind (fun vs H Q E h => ?_) (fun cdv A outer s H vs Q E hr h => ?_)
  ·
    obtain ⟨a, t, b, ps, xs, ws, ss, rfl, _⟩ := h
    rfl
  ·
    obtain ⟨a, t, b, ps, xs, ws, ss, rfl, hT, hok, p1, p2, hS, hso, hb, hd, oks, sl, hTb, q⟩ := h
    refine ⟨_, (pss_cons (ps_expr (pe_call G_check_stand (hr.mono (by decide)) (by rfl) g_check_stand F_check_stand.kp b_check_stand .nil pass0 (pa_cons (pv 0) (pa_cons (pv 1) pa_nil))))
      (pss_cons (ps_expr (pe_call G_check_shows (hr.mono (by decide)) (by rfl) g_check_shows F_check_shows.kp b_check_shows .nil pass0 (pa_cons (pv 2) pa_nil)))
      (pss_cons (ps_asg (pe_call G_fed (hr.mono (by decide)) (by rfl) g_fed F_fed.kp b_fed .nil pass0 (pa_cons (pv 0) (pa_cons (pv 1) (pa_cons (pe_lc (own := [("way", 5), ("shown", 6)]) (g := gTup K 2 (gCons (gName 5) (gCons (gName 6) gNil)))  rfl sc_passes_behind.nd  (pi_list (pv 2)) (blkOk_by (own := [("way", 5), ("shown", 6)]) (N := ["train", "stand", "shows", "after", "comes", "way", "shown"]) (sc := defScope S_passes_behind) (by decide +kernel)) (fun _ _ _ _ _ => pg_tup rfl (pgs_cons (pg_name (i := 5) sc_passes_behind.nd rfl (Or.inl rfl)) (pgs_cons (pg_name (i := 6) sc_passes_behind.nd rfl (Or.inl rfl)) pgs_nil))) (fun _ _ _ _ _ => pts_nil) (fun _ _ _ _ _ => (pv 5))) pa_nil)))) (pg_tup rfl (pgs_cons (pg_name (i := 3) sc_passes_behind.nd rfl (.inl rfl)) (pgs_cons (pg_name (i := 4) sc_passes_behind.nd rfl (.inl rfl)) pgs_nil))))
      (pss_one (ps_ret (pe_call G_passes_of (hr.mono (by decide)) (by rfl) g_passes_of F_passes_of.kp b_passes_of .nil pass0 (pa_cons (pv 4) (pa_cons (pv 2) pa_nil)))))))), ?_⟩
    refine w_st (σ' := [some (.ref a), some (.ref t), some (.ref b), none, none, none, none]) rfl ?_
    have wl : ws.length = ss.length := by rw [dpAll_len hd, List.length_map]
    walk_at "ct"
    refine ⟨a, t, ps, xs, rfl, hT, hok, p1, hS, hso, fun H0 s0 => ?_⟩
    walk_at "ct"
    refine ⟨b, ws, ss, rfl, s0.seq hb, dpAll_same s0 hd, oks, hTb.same s0, fun H1 s1' => ?_⟩
    have s1 := s0.trans s1'
    walk_at "ct"
    refine w_IL (s1.seq hb) ?_
    refine lb_list ws (fun D2 k G => Same H1 G ∧ G D2 = some (.lst (((ss.map (·.1)).take k).map V.int))) (fun D2 hD2 => ⟨same_upd hD2, upd_same⟩) (fun D2 hD2 k G _ h => (s1.trans h.1).seq hb) ?_ ?_
    · rintro D2 hD2 k x G hx ⟨sG, hG⟩
      have hk : k < ws.length := (List.getElem?_eq_some_iff.mp hx).1
      obtain ⟨z, hz⟩ : ∃ z, ss[k]? = some z := ⟨_, List.getElem?_eq_getElem (by omega)⟩
      obtain ⟨v', hv1, hd1⟩ := dpAll_get hd (i := k) (d := sh2D z) (by rw [List.getElem?_map, hz]; rfl)
      cases Option.some.inj (hx.symm.trans hv1)
      obtain ⟨g, rfl, hg⟩ := sh2_inv (dp_same (s1.trans sG) hd1)
      refine w_gtup hg rfl ?_
      walk_at "ct"
      refine ⟨rfl, ?_⟩
      walk_at "ct"
      refine ⟨_, hG, by rw [List.length_map, List.length_take, List.length_map]; exact small1000 (by omega), same_new sG hD2, ?_⟩
      rw [upd_same, List.take_add_one, List.getElem?_map, hz, List.map_append]
      rfl
    · rintro D2 hD2 G ⟨sG, hG⟩
      rw [List.take_of_length_le (by rw [List.length_map]; omega)] at hG
      have s2 := s1.trans sG
      walk_at "ct"
      refine ⟨a, t, D2, ps, xs, ss.map (·.1), rfl, hT.same s2, hok, p1, p2, Same.tup s2 hS, hso, .of hG, fun s hs => ?_, by rw [List.length_map]; exact sl, hTb.same s2, fun l u g H3 s3 nl hl hu hg => ?_⟩
      · obtain ⟨z, hz, rfl⟩ := List.mem_map.mp hs
        exact .inr (oks z hz).1
      refine w_gtup (.of hg) rfl ?_
      walk_at "ct"
      have s4 := s2.trans s3
      refine ⟨l, b, (fedS ps xs (ss.map (·.1))).2, ws, ss, rfl, .of hl, s4.seq hb, dpAll_same s4 hd, by rw [fedS_len, List.length_map], sl, fun l2 us H' s5 nl2 hl2 hu2 => ?_⟩
      exact q l2 us H' (s4.trans s5) (s4.free nl2) hl2 hu2
abbrev S_is_wrong : Stmt := topS 28
theorem sc_is_wrong : FnScope ["push", "came", "tooth", "shown"] ["push"] (defScope S_is_wrong) := ⟨rfl, rfl, rfl, by decide +kernel, rfl, by decide +kernel, by decide +kernel⟩
def sp_is_wrong (K : PySem.W.Frag) : Sp := fun vs H Q _ => ∃ (v : V) (p : Pass), vs = [v] ∧ Dp K H v (passD p) ∧ ∀ H', Same H H' → Q (.bl (!(decide (p.2.2 = p.1) || decide (p.2.2 = 0)))) H'
theorem ok_is_wrong {f : Addr} {fd : FuncData} (F : Fun K "is_wrong" "is_wrong" S_is_wrong f fd) :
    FnOk P w K mg base CX0 1 f fd ["push"] (sp_is_wrong K) := by
  refine F.ok sc_is_wrong (fun vs H Q E h => ?_) (fun cdv A outer s H vs Q E hr h => ?_)
  ·
    obtain ⟨v, p, rfl, _⟩ := h
    rfl
  ·
    obtain ⟨v, p, rfl, hd, q⟩ := h
    obtain ⟨a, rfl, ha⟩ := pass_inv hd
    refine ⟨_, (pss_cons (ps_asg (pv 0) (pg_tup rfl (pgs_cons (pg_name (i := 1) sc_is_wrong.nd rfl (.inl rfl)) (pgs_cons (pg_name (i := 2) sc_is_wrong.nd rfl (.inl rfl)) (pgs_cons (pg_name (i := 3) sc_is_wrong.nd rfl (.inl rfl)) pgs_nil)))))
      (pss_one (ps_ret (pe_cmpR (r := rIn K true) op_notIn_seq (pv 3) (pe_tup (pa_cons (pv 1) (pa_cons pe_int pa_nil))) (by rfl))))), ?_⟩
    refine w_st (σ' := [some (.ref a), none, none, none]) rfl ?_
    refine w_seq ?_
    walk_at "ct"
    refine w_gtup ha rfl ?_
    walk_at "ct"
    refine ⟨len2 rfl, fun g ng => ?_⟩
    refine w_ninT (ns := [p.1, 0]) (.of upd_same) ?_
    rw [show decide (p.2.2 ∈ [p.1, (0 : Int)]) = (decide (p.2.2 = p.1) || decide (p.2.2 = 0)) by simp]
    exact q _ (same_upd ng)
abbrev S_are_unlike : Stmt := topS 29
theorem sc_are_unlike : FnScope ["one", "other"] ["one", "other"] (defScope S_are_unlike) := ⟨rfl, rfl, rfl, by decide +kernel, rfl, by decide +kernel, by decide +kernel⟩
def sp_are_unlike (K : PySem.W.Frag) : Sp := fun vs H Q _ => ∃ (v u : V) (p q : Pass), vs = [v, u] ∧ Dp K H v (passD p) ∧ Dp K H u (passD q) ∧ Q (.bl (unlk p q)) H
theorem ok_are_unlike {f : Addr} {fd : FuncData} (F : Fun K "are_unlike" "are_unlike" S_are_unlike f fd) :
    FnOk P w K mg base CX0 1 f fd ["one", "other"] (sp_are_unlike K) := by
  refine F.ok sc_are_unlike (fun vs H Q E h => ?_) (fun cdv A outer s H vs Q E hr h => ?_)
  ·
    obtain ⟨v, u, p, q, rfl, _⟩ := h
    rfl
  ·
    obtain ⟨v, u, p, r, rfl, hv, hu, q⟩ := h
    obtain ⟨a, rfl, ha⟩ := pass_inv hv
    obtain ⟨b, rfl, hb⟩ := pass_inv hu
    refine ⟨_, (pss_one (ps_ret (pe_and (pe_cmpR op_ne (pe_ix (r := rIxT K) ix_tup (pv 0) pe_int (fun _ _ => rfl)) pe_int (nomark _)) (pe_and (pe_cmpR op_ne (pe_ix (r := rIxT K) ix_tup (pv 1) pe_int (fun _ _ => rfl)) pe_int (nomark _)) (pe_one (pe_cmpR op_ne (pe_cmpR op_eq (pe_ix (r := rIxT K) ix_tup (pv 0) pe_int (fun _ _ => rfl)) pe_int (nomark _)) (pe_cmpR op_eq (pe_ix (r := rIxT K) ix_tup (pv 1) pe_int (fun _ _ => rfl)) pe_int (nomark _)) (nomark _))))))), ?_⟩
    refine w_st (σ' := [some (.ref a), some (.ref b)]) rfl ?_
    walk_at "ct"
    unfold unlk at q
    refine w_iteN (fun e => ?_) (fun e => ?_)
    · rw [decide_eq_false e] at q
      walk_at "ct"
      refine w_iteN (fun e2 => ?_) (fun e2 => ?_)
      · rw [decide_eq_false e2] at q
        walk_at "ct"
        refine ⟨rfl, ?_⟩
        by_cases e3 : p.2.2 = 0 <;> by_cases e4 : r.2.2 = 0
        · rw [decide_eq_true e3, decide_eq_true e4] at q ⊢
          exact q
        · rw [decide_eq_true e3, decide_eq_false e4] at q ⊢
          exact q
        · rw [decide_eq_false e3, decide_eq_true e4] at q ⊢
          exact q
        · rw [decide_eq_false e3, decide_eq_false e4] at q ⊢
          exact q
      · rw [decide_eq_true e2] at q
        exact q
    · rw [decide_eq_true e] at q
      exact q
abbrev S_first_clash : Stmt := topS 30
theorem sc_first_clash : FnScope ["passes", "teeth", "first", "k", "push", "j"] ["passes", "teeth"] (defScope S_first_clash) := ⟨rfl, rfl, rfl, by decide +kernel, rfl, by decide +kernel, by decide +kernel⟩
def sp_first_clash (K : PySem.W.Frag) : Sp := fun vs H Q _ => ∃ (a : Addr) (ws : List V) (ps : List Pass) (t : Int), vs = [.ref a, .int t] ∧ SqL K H a ws ∧ DpAll K H ws (ps.map passD) ∧ 1 ≤ t ∧ ps.length ≤ 1000 ∧ (NoHit ps t ps.length → ∀ H', Same H H' → Q .non H') ∧
  ∀ j k : Nat, IsCl ps t j k → ∀ g H', Same H H' → H g = none → H' g = some (.tup [.int (j : Int), .int (k : Int)]) → Q (.ref g) H'
theorem ok_first_clash {f : Addr} {fd : FuncData} {f_are_unlike : Addr} {fd_are_unlike : FuncData} (F : Fun K "first_clash" "first_clash" S_first_clash f fd)
    (F_are_unlike : Fun K "are_unlike" "are_unlike" S_are_unlike f_are_unlike fd_are_unlike) (b_are_unlike : Binds K fd_are_unlike ["one", "other"] []) (g_are_unlike : mg "are_unlike" = some (.ref f_are_unlike)) (G_are_unlike : FnOk P w K mg base CX0 1 f_are_unlike fd_are_unlike ["one", "other"] (sp_are_unlike K)) (m_enumerate : mg "enumerate" = none) :
    FnOk P w K mg base CX0 2 f fd ["passes", "teeth"] (sp_first_clash K) := by
  refine F.ok sc_first_clash (fun vs H Q E h => ?_) (fun cdv A outer s H vs Q E hr h => ?_)
  ·
    obtain ⟨a, ws, ps, t, rfl, _⟩ := h
    rfl
  ·
    obtain ⟨a, ws, ps, t, rfl, ha, hd, t1, pl, qN, qH⟩ := h
    refine ⟨_, (pss_cons (ps_set (i := 2) sc_first_clash.nd rfl (.inl rfl) pe_dnewK)
      (pss_cons (ps_for PassesOwn.never rfl (pi_enum (by rfl) m_enumerate (pa_cons (pv 0) pa_nil)) (pg_tup rfl (pgs_cons (pg_name (i := 3) sc_first_clash.nd rfl (.inl rfl)) (pgs_cons (pg_name (i := 4) sc_first_clash.nd rfl (.inl rfl)) pgs_nil)))
      (pss_one (ps_if (pt_cmpR op_ne (pe_ix (r := rIxT K) ix_tup (pv 4) pe_int (fun _ _ => rfl)) pe_int (nomark _)) (pss_cons (ps_set (i := 5) sc_first_clash.nd rfl (.inl rfl) (pe_bm PySem.F.plainAttrs_dict PySem.F.slot_dict_setdefault PySem.F.type_dict_setdefault mt_setd (pv 2) (pa_cons (pe_op op_mod (pe_ix (r := rIxT K) ix_tup (pv 4) pe_int (fun _ _ => rfl)) (pv 1)) (pa_cons (pv 3) pa_nil))))
      (pss_one (ps_if (pt_val (pe_call G_are_unlike (hr.mono (by decide)) (by rfl) g_are_unlike F_are_unlike.kp b_are_unlike .nil pass0 (pa_cons (pe_ix (r := rIxL K) ix_list (pv 0) (pv 5) (fun _ _ => rfl)) (pa_cons (pv 4) pa_nil)))) (pss_one (ps_ret (pe_tup (pa_cons (pv 5) (pa_cons (pv 3) pa_nil))))) pss_nil))) pss_nil)))
      (pss_one (ps_ret pe_non)))), ?_⟩
    refine w_st (σ' := [some (.ref a), some (.int t), none, none, none, none]) rfl ?_
    have wl : ws.length = ps.length := by rw [dpAll_len hd, List.length_map]
    walk_at "ct"
    intro fd nfd
    have s1 : Same H (upd H fd (.dK [])) := same_upd nfd
    have h1 : (upd H fd (.dK [])) fd = some (.dK []) := upd_same
    generalize upd H fd _ = H1 at *
    walk_at "ct"
    refine w_IE (s1.seq ha) ?_
    refine fb_enumL ws (fun n σ G => ∃ (y3 y4 y5 : Option V) (kvs : List (Key × V)), σ = [some (.ref a), some (.int t), some (.ref fd), y3, y4, y5] ∧ Same H G ∧ G fd = some (.dK kvs) ∧ kvs.length ≤ n ∧ Kept ps t n kvs ∧ NoHit ps t n) ⟨none, none, none, [], rfl, s1, h1, Nat.le_refl _, ⟨(fun _ _ h => nomatch h), fun _ _ i _ hi => absurd hi (Nat.not_lt_zero i)⟩, fun _ k _ hk => absurd hk (Nat.not_lt_zero k)⟩ ?_ ?_ ?_
    · rintro n σ G _ ⟨y3, y4, y5, kvs, rfl, sG, _⟩
      exact sG.seq ha
    · rintro n v Tp σ G hx ⟨y3, y4, y5, kvs, rfl, sG, hf, kl, kept, nh⟩ nT
      have hn : n < ws.length := (List.getElem?_eq_some_iff.mp hx).1
      obtain ⟨p, hp⟩ : ∃ p, ps[n]? = some p := ⟨_, List.getElem?_eq_getElem (by omega)⟩
      obtain ⟨v', hv1, hd1⟩ := dpAll_get hd (i := n) (d := passD p) (by rw [List.getElem?_map, hp]; rfl)
      cases Option.some.inj (hx.symm.trans hv1)
      have sT : Same G (upd G Tp (.tup [.int (n : Nat), v])) := same_upd nT
      have hT : (upd G Tp (.tup [.int (n : Nat), v])) Tp = some (.tup [.int (n : Nat), v]) := upd_same
      generalize upd G Tp _ = G1 at *
      have s3 := sG.trans sT
      have hf3 := sT _ _ hf
      obtain ⟨b, rfl, hb⟩ := pass_inv (dp_same s3 hd1)
      refine w_gtup (.of hT) rfl ?_
      walk_at "ct"
      refine w_iteN (fun e => ?_) (fun e => ?_)
      · walk_at "ct"
        refine ⟨.inr (.inr (.inl ⟨rfl, .inl ⟨kvs, hf3⟩⟩)), ?_⟩
        walk_at "ct"
        refine w_rI (show (0 : Int) < t by omega) ?_
        walk_at "ct"
        refine ⟨fd, kvs, Sum.inl (p.2.1 % t), .int (n : Int), rfl, rfl, hf3, Nat.lt_of_le_of_lt (show kvs.length ≤ 1000 by omega) (by decide), fun u hu => ?_, fun hnone => ?_⟩
        · obtain ⟨j, p0, rfl, jn, hj, c0, r0, first⟩ := kept.is _ _ hu
          obtain ⟨v0, hv0, hd0⟩ := dpAll_get hd (i := j) (d := passD p0) (by rw [List.getElem?_map, hj]; rfl)
          walk_at "ct"
          refine w_ixL (s3.seq ha) (at_of (j := j) rfl hv0) ?_
          walk_at "ct"
          refine ⟨v0, _, p0, p, rfl, dp_same s3 hd0, dp_same s3 hd1, ?_⟩
          cases un : unlk p0 p with
          | true =>
            walk_at "ct"
            refine ⟨len2 rfl, fun g ng => ?_⟩
            exact qH j n ⟨jn, ⟨p0, p, hj, hp, r0, un⟩, nh, fun i hi ⟨p1, q1, e1, e2, e3, e4⟩ => by
              cases Option.some.inj (hp.symm.trans e2)
              exact first i p1 hi e1 (unlk_came e4).1 e3⟩ g _ (s3.trans (same_upd ng)) (s3.free ng) upd_same
          | false =>
            walk_at "ct"
            refine ⟨_, _, _, kvs, rfl, s3, hf3, by omega, kept.there hp hu, nh.more fun i hi ⟨p1, q1, e1, e2, e3, e4⟩ => ?_⟩
            cases Option.some.inj (hp.symm.trans e2)
            obtain ⟨n1, n2, n3⟩ := unlk_came e4
            have d0 := unlk_of c0 n2 un
            by_cases c : i = j
            · subst c
              cases Option.some.inj (hj.symm.trans e1)
              rw [un] at e4
              cases e4
            · by_cases lt : i < j
              · exact first i p1 lt e1 n1 e3
              · have nohit := nh j i (by omega) hi
                have un2 : unlk p0 p1 = false := by
                  cases z : unlk p0 p1 with
                  | false => rfl
                  | true => exact absurd ⟨p0, p1, hj, e1, by rw [r0, e3], z⟩ nohit
                exact n3 ((unlk_of c0 n1 un2).symm.trans d0)
        · have s4 : Same H (upd G1 fd (.dK (putK kvs (Sum.inl (p.2.1 % t)) (.int (n : Int))))) := same_new s3 nfd
          have h4 : (upd G1 fd (.dK (putK kvs (Sum.inl (p.2.1 % t)) (.int (n : Int))))) fd = some (.dK (putK kvs (Sum.inl (p.2.1 % t)) (.int (n : Int)))) := upd_same
          generalize upd G1 fd _ = G4 at *
          obtain ⟨b', eb, hbb⟩ := pass_inv (dp_same s4 hd1)
          cases eb
          walk_at "ct"
          refine w_ixL (s4.seq ha) (at_of (j := n) rfl hv1) ?_
          walk_at "ct"
          refine ⟨_, _, p, p, rfl, dp_same s4 hd1, dp_same s4 hd1, ?_⟩
          rw [unlk_self]
          walk_at "ct"
          refine ⟨_, _, _, _, rfl, s4, h4, Nat.le_trans (length_putK _ _ _) (by omega), kept.new hp e hnone, nh.more fun i hi ⟨p1, q1, e1, e2, e3, e4⟩ => ?_⟩
          cases Option.some.inj (hp.symm.trans e2)
          exact kept.no _ hnone i p1 hi e1 (unlk_came e4).1 e3
      · walk_at "ct"
        exact ⟨_, _, _, kvs, rfl, s3, hf3, by omega, kept.skip hp e, nh.more fun j _ ⟨p1, q1, _, e2, _, e4⟩ => by
          cases Option.some.inj (hp.symm.trans e2)
          exact (unlk_came e4).2.1 e⟩
    · rintro σ G ⟨y3, y4, y5, kvs, rfl, sG, hf, kl, kept, nh⟩
      rw [wl] at nh
      walk_at "ct"
      exact qN nh G sG
abbrev S_marks_of : Stmt := topS 31
theorem sc_marks_of : FnScope ["passes", "teeth", "came", "tooth", "shown"] ["passes", "teeth"] (defScope S_marks_of) := ⟨rfl, rfl, rfl, by decide +kernel, rfl, by decide +kernel, by decide +kernel⟩
def sp_marks_of (K : PySem.W.Frag) : Sp := fun vs H Q _ => ∃ (a : Addr) (ws : List V) (ps : List Pass) (t : Int), vs = [.ref a, .int t] ∧ SqL K H a ws ∧ DpAll K H ws (ps.map passD) ∧ 1 ≤ t ∧ ps.length ≤ 1000 ∧
  ∀ m ms H', IsMarks ps t ms → Same H H' → H m = none → H' m = some (.tup (ms.map V.int)) → Q (.ref m) H'
theorem ok_marks_of {f : Addr} {fd : FuncData} (F : Fun K "marks_of" "marks_of" S_marks_of f fd) (m_tuple : mg "tuple" = none) (m_sorted : mg "sorted" = none) :
    FnOk P w K mg base CX0 1 f fd ["passes", "teeth"] (sp_marks_of K) := by
  refine F.ok sc_marks_of (fun vs H Q E h => ?_) (fun cdv A outer s H vs Q E hr h => ?_)
  ·
    obtain ⟨a, ws, ps, t, rfl, _⟩ := h
    rfl
  ·
    obtain ⟨a, ws, ps, t, rfl, ha, hd, t1, pl, q⟩ := h
    refine ⟨_, (pss_one (ps_ret (pe_callTy call_tuple_of (by rfl) m_tuple (by decide +kernel) (pa_cons (pe_callB (r := rSrtI w) (cr_srtI rfl) (by rfl) m_sorted (by decide +kernel) (pa_cons (pe_scI (w0 := w) rfl (own := [("came", 2), ("tooth", 3), ("shown", 4)]) (g := gTup K 3 (gCons (gName 2) (gCons (gName 3) (gCons (gName 4) gNil)))) rfl sc_marks_of.nd (pi_list (pv 0)) (blkOk_by (own := [("came", 2), ("tooth", 3), ("shown", 4)]) (N := ["passes", "teeth", "came", "tooth", "shown"]) (sc := defScope S_marks_of) (by decide +kernel)) (fun _ _ _ _ _ => pg_tup rfl (pgs_cons (pg_name (i := 2) sc_marks_of.nd rfl (Or.inl rfl)) (pgs_cons (pg_name (i := 3) sc_marks_of.nd rfl (Or.inl rfl)) (pgs_cons (pg_name (i := 4) sc_marks_of.nd rfl (Or.inl rfl)) pgs_nil)))) (fun _ _ _ _ _ => (pts_one (pt_cmpR op_ne (pv 4) pe_int (nomark _)))) (fun _ _ _ _ _ => (pe_op op_mod (pv 3) (pv 1)))) pa_nil)) pa_nil)))), ?_⟩
    refine w_st (σ' := [some (.ref a), some (.int t), none, none, none]) rfl ?_
    have wl : ws.length = ps.length := by rw [dpAll_len hd, List.length_map]
    walk_at "ct"
    refine w_scG ?_
    walk_at "ct"
    refine w_IL ha ?_
    refine sb_list ws (fun D n G => Same H G ∧ ∃ (S : Int → Bool) (c : Nat), G D = some (IntSet w D (S, c)) ∧ c ≤ n ∧ ∀ r, S r = true ↔ ∃ p ∈ ps.take n, p.2.2 ≠ 0 ∧ p.2.1 % t = r) (fun D hD => ⟨same_upd hD, fun _ => false, 0, upd_same, Nat.le_refl _, fun r => by simp⟩) (fun D hD n G _ h => h.1.seq ha) ?_ ?_
    · rintro D hD n x G hx ⟨sG, S, c, hS, cn, mem⟩
      have hn : n < ws.length := (List.getElem?_eq_some_iff.mp hx).1
      obtain ⟨p, hp⟩ : ∃ p, ps[n]? = some p := ⟨_, List.getElem?_eq_getElem (by omega)⟩
      obtain ⟨v', hv1, hd1⟩ := dpAll_get hd (i := n) (d := passD p) (by rw [List.getElem?_map, hp]; rfl)
      cases Option.some.inj (hx.symm.trans hv1)
      obtain ⟨b, rfl, hb⟩ := pass_inv (dp_same sG hd1)
      have tk : ∀ r, (∃ q ∈ ps.take (n + 1), q.2.2 ≠ 0 ∧ q.2.1 % t = r) ↔ (∃ q ∈ ps.take n, q.2.2 ≠ 0 ∧ q.2.1 % t = r) ∨ (p.2.2 ≠ 0 ∧ p.2.1 % t = r) := fun r => by
        rw [List.take_add_one, hp, Option.toList_some]
        simp only [List.mem_append, List.mem_singleton]
        constructor
        · rintro ⟨q, hq | rfl, z⟩
          · exact .inl ⟨q, hq, z⟩
          · exact .inr z
        · rintro (⟨q, hq, z⟩ | z)
          · exact ⟨q, .inl hq, z⟩
          · exact ⟨p, .inr rfl, z⟩
      refine w_gtup hb rfl ?_
      walk_at "ct"
      refine ⟨rfl, ?_⟩
      walk_at "ct"
      refine w_iteN (fun e => ?_) (fun e => ?_)
      · walk_at "ct"
        refine w_rI (show (0 : Int) < t by omega) ?_
        refine ⟨(S, c), _, hS, ⟨p.2.1 % t, rfl, Nat.lt_of_le_of_lt (show c + 1 ≤ 1001 by omega) (by decide), rfl⟩, same_new sG hD, _, _, upd_same, ?_, fun r => ?_⟩
        · show (if S (p.2.1 % t) = true then c else c + 1) ≤ n + 1
          split <;> omega
        · rw [tk r, ← mem r, Bool.or_eq_true, decide_eq_true_eq]
          exact ⟨fun z => z.imp id fun y => ⟨e, y.symm⟩, fun z => z.imp id fun y => y.2.symm⟩
      · refine ⟨sG, S, c, hS, by omega, fun r => ?_⟩
        rw [tk r, mem r]
        exact ⟨.inl, fun z => z.resolve_right fun y => y.1 e⟩
    · rintro D hD G ⟨sG, S, c, hS, cn, mem⟩
      rw [wl, List.take_length] at mem
      refine ⟨D, (S, c), rfl, hS, fun ns l up mem2 _ nl => ?_⟩
      walk_at "ct"
      refine ⟨l, _, rfl, .inl ⟨.of upd_same, fun m nm => ?_⟩⟩
      have s2 : Same G (upd G l (.lst (ns.map V.int))) := same_upd nl
      exact q m ns _ ⟨up, fun r => (mem2 r).trans (mem r)⟩ ((sG.trans s2).trans (same_upd nm)) ((sG.trans s2).free nm) upd_same
abbrev S_smallest_of : Stmt := topS 32
theorem sc_smallest_of : FnScope ["passes", "k", "push", "bars", "teeth", "clash", "j"] ["passes"] (defScope S_smallest_of) := ⟨rfl, rfl, rfl, by decide +kernel, rfl, by decide +kernel, by decide +kernel⟩
def sp_smallest_of (K : PySem.W.Frag) : Sp := fun vs H Q _ => ∃ (a : Addr) (ws : List V) (ps : List Pass), vs = [.ref a] ∧ SqL K H a ws ∧ DpAll K H ws (ps.map passD) ∧ ps.length ≤ 1000 ∧ Walky ps ∧ ∀ g H', Same H H' → SmOk K ps H H' g → Q (.ref g) H'
theorem ok_smallest_of {f : Addr} {fd : FuncData} {f_marks_of : Addr} {fd_marks_of : FuncData} {f_first_clash : Addr} {fd_first_clash : FuncData} {f_is_wrong : Addr} {fd_is_wrong : FuncData} (F : Fun K "smallest_of" "smallest_of" S_smallest_of f fd)
    (F_marks_of : Fun K "marks_of" "marks_of" S_marks_of f_marks_of fd_marks_of) (b_marks_of : Binds K fd_marks_of ["passes", "teeth"] []) (g_marks_of : mg "marks_of" = some (.ref f_marks_of)) (G_marks_of : FnOk P w K mg base CX0 1 f_marks_of fd_marks_of ["passes", "teeth"] (sp_marks_of K))
    (F_first_clash : Fun K "first_clash" "first_clash" S_first_clash f_first_clash fd_first_clash) (b_first_clash : Binds K fd_first_clash ["passes", "teeth"] []) (g_first_clash : mg "first_clash" = some (.ref f_first_clash)) (G_first_clash : FnOk P w K mg base CX0 2 f_first_clash fd_first_clash ["passes", "teeth"] (sp_first_clash K))
    (F_is_wrong : Fun K "is_wrong" "is_wrong" S_is_wrong f_is_wrong fd_is_wrong) (b_is_wrong : Binds K fd_is_wrong ["push"] []) (g_is_wrong : mg "is_wrong" = some (.ref f_is_wrong)) (G_is_wrong : FnOk P w K mg base CX0 1 f_is_wrong fd_is_wrong ["push"] (sp_is_wrong K)) (m_enumerate : mg "enumerate" = none) (m_range : mg "range" = none) (m_max : mg "max" = none) (m_len : mg "len" = none) :
    FnOk P w K mg base CX0 3 f fd ["passes"] (sp_smallest_of K) := by
  refine F.ok sc_smallest_of (fun vs H Q E h => ?_) (fun cdv A outer s H vs Q E hr h => ?_)
  ·
    obtain ⟨a, ws, ps, rfl, _⟩ := h
    rfl
  ·
    obtain ⟨a, ws, ps, rfl, ha, hd, pl, wk, q⟩ := h
    refine ⟨_, (pss_cons (ps_for PassesOwn.never rfl (pi_enum (by rfl) m_enumerate (pa_cons (pv 0) pa_nil)) (pg_tup rfl (pgs_cons (pg_name (i := 1) sc_smallest_of.nd rfl (.inl rfl)) (pgs_cons (pg_name (i := 2) sc_smallest_of.nd rfl (.inl rfl)) pgs_nil)))
      (pss_one (ps_if (pt_val (pe_call G_is_wrong (hr.mono (by decide)) (by rfl) g_is_wrong F_is_wrong.kp b_is_wrong .nil pass0 (pa_cons (pv 2) pa_nil))) (pss_one (ps_ret (pe_tup (pa_cons pe_str (pa_cons (pv 1) (pa_cons (pv 1) pa_nil)))))) pss_nil)))
      (pss_cons (ps_set (i := 3) sc_smallest_of.nd rfl (.inl rfl) (pe_lst pa_nil))
      (pss_cons (ps_for PassesOwn.never rfl (pi_range2 (by rfl) m_range (pa_cons pe_int (pa_cons (pe_op op_add (pe_callB (call_max2 rfl) (by rfl) m_max (by decide +kernel) (pa_cons pe_int (pa_cons (pe_callB call_len_seq (by rfl) m_len (by decide +kernel) (pa_cons (pv 0) pa_nil)) pa_nil))) pe_int) pa_nil))) (pg_name (i := 4) sc_smallest_of.nd rfl (.inl rfl))
      (pss_cons (ps_set (i := 5) sc_smallest_of.nd rfl (.inl rfl) (pe_call G_first_clash (hr.mono (by decide)) (by rfl) g_first_clash F_first_clash.kp b_first_clash .nil pass0 (pa_cons (pv 0) (pa_cons (pv 4) pa_nil))))
      (pss_cons (ps_if (pt_cmpR op_isN (pv 5) pe_non (nomark _)) (pss_one (ps_ret (pe_tup (pa_cons pe_str (pa_cons (pv 4) (pa_cons (pe_call G_marks_of (hr.mono (by decide)) (by rfl) g_marks_of F_marks_of.kp b_marks_of .nil pass0 (pa_cons (pv 0) (pa_cons (pv 4) pa_nil))) (pa_cons (pv 3) pa_nil))))))) pss_nil)
      (pss_one (ps_expr (pe_bm PySem.F.plainAttrs_list PySem.F.slot_list_append PySem.F.type_list_append mt_append (pv 3) (pa_cons (pv 5) pa_nil)))))))
      (pss_cons (ps_asg (pe_ix (r := rIxL K) ix_list (pv 3) (pe_un un_neg pe_int) (fun _ _ => rfl)) (pg_tup rfl (pgs_cons (pg_name (i := 6) sc_smallest_of.nd rfl (.inl rfl)) (pgs_cons (pg_name (i := 1) sc_smallest_of.nd rfl (.inl rfl)) pgs_nil))))
      (pss_one (ps_ret (pe_tup (pa_cons pe_str (pa_cons (pv 6) (pa_cons (pv 1) pa_nil)))))))))), ?_⟩
    refine w_st (σ' := [some (.ref a), none, none, none, none, none, none]) rfl ?_
    have wl : ws.length = ps.length := by rw [dpAll_len hd, List.length_map]
    walk_at "ct"
    refine w_IE ha ?_
    refine fb_enumL ws (fun n σ G => ∃ (y1 y2 : Option V), σ = [some (.ref a), y1, y2, none, none, none, none] ∧ Same H G ∧ ∀ p ∈ ps.take n, wrongB p = false) ⟨none, none, rfl, Same.refl _, fun p hp => by simp at hp⟩ ?_ ?_ ?_
    · rintro n σ G _ ⟨y1, y2, rfl, sG, _⟩
      exact sG.seq ha
    · rintro n v Tp σ G hx ⟨y1, y2, rfl, sG, nw⟩ nT
      have hn : n < ws.length := (List.getElem?_eq_some_iff.mp hx).1
      obtain ⟨p, hp⟩ : ∃ p, ps[n]? = some p := ⟨_, List.getElem?_eq_getElem (by omega)⟩
      obtain ⟨v', hv1, hd1⟩ := dpAll_get hd (i := n) (d := passD p) (by rw [List.getElem?_map, hp]; rfl)
      cases Option.some.inj (hx.symm.trans hv1)
      have sT : Same G (upd G Tp (.tup [.int (n : Nat), v])) := same_upd nT
      have hT : (upd G Tp (.tup [.int (n : Nat), v])) Tp = some (.tup [.int (n : Nat), v]) := upd_same
      generalize upd G Tp _ = G1 at *
      have s3 := sG.trans sT
      refine w_gtup (.of hT) rfl ?_
      walk_at "ct"
      refine ⟨v, p, rfl, dp_same s3 hd1, fun H2 s2 => ?_⟩
      have s4 := s3.trans s2
      have ew : (!(decide (p.2.2 = p.1) || decide (p.2.2 = 0))) = wrongB p := rfl
      rw [ew]
      refine w_bl ?_
      cases e : wrongB p with
      | true =>
        walk_at "ct"
        refine ⟨len2 rfl, fun g ng => ?_⟩
        refine q g _ (s4.trans (same_upd ng)) ⟨s4.free ng, .inl ⟨n, n, upd_same, .inl ⟨p, hp, e, rfl, fun i r hi hr => ?_⟩⟩⟩
        exact nw r (List.mem_of_getElem? (i := i) (by rw [List.getElem?_take, if_pos hi]; exact hr))
      | false =>
        walk_at "ct"
        refine ⟨_, _, rfl, s4, fun r hr => ?_⟩
        rw [List.take_add_one, hp, Option.toList_some] at hr
        rcases List.mem_append.mp hr with hr | hr
        · exact nw r hr
        · rw [List.mem_singleton.mp hr]
          exact e
    · rintro σ G ⟨y1, y2, rfl, sG, nw⟩
      rw [wl, List.take_length] at nw
      walk_at "ct"
      refine ⟨len2 rfl, fun l nl => ?_⟩
      have sl : Same G (upd G l (.lst [])) := same_upd nl
      have hl : (upd G l (.lst [])) l = some (.lst []) := upd_same
      generalize upd G l _ = G1 at *
      have nlH := sG.free nl
      have s1 := sG.trans sl
      walk_at "ct"
      refine ⟨a, ws, rfl, .inl (s1.seq ha), ?_⟩
      walk_at "ct"
      refine ⟨1, (ws.length : Int), rfl, ?_⟩
      obtain ⟨N, hN, N1⟩ : ∃ N : Nat, (if (ws.length : Int) > 1 then (ws.length : Int) else 1) = (N : Int) ∧ N = max 1 ps.length := ⟨max 1 ps.length, by rw [wl]; split <;> omega, rfl⟩
      rw [hN]
      walk_at "ct"
      refine w_RG2 (by omega) (by omega) (by omega) (by omega) ?_
      rw [show ((N : Int) + 1 - 1).toNat = N by omega]
      refine fb_range (fun n σ G => ∃ (y4 y5 : Option V) (us : List V) (bars : List (Nat × Nat)), σ = [some (.ref a), y1, y2, some (.ref l), y4, y5, none] ∧ Same H G ∧ G l = some (.lst us) ∧ DpAll K G us (bars.map barD) ∧ bars.length = n ∧ ∀ (i : Nat) (b : Nat × Nat), bars[i]? = some b → IsCl ps ((i + 1 : Nat) : Int) b.1 b.2) ⟨none, none, [], [], rfl, s1, hl, .nil, rfl, fun i b z => by simp at z⟩ ?_ ?_
      · rintro n σ G hn ⟨y4, y5, us, bars, rfl, sG, hl, hu, bl, hb⟩
        have ul : us.length = n := by rw [dpAll_len hu, List.length_map, bl]
        rw [show (1 : Int) + (n : Int) = ((n + 1 : Nat) : Int) by omega]
        walk_at "ct"
        refine ⟨a, ws, ps, ((n + 1 : Nat) : Int), rfl, sG.seq ha, dpAll_same sG hd, by omega, pl, fun free H2 s2 => ?_, fun j k cl g H2 s2 ng hg => ?_⟩
        · walk_at "ct"
          refine ⟨rfl, ?_⟩
          walk_at "ct"
          refine w_ite (fun _ => ?_) (fun z => absurd rfl z)
          walk_at "ct"
          have s3 := sG.trans s2
          refine ⟨a, ws, ps, ((n + 1 : Nat) : Int), rfl, s3.seq ha, dpAll_same s3 hd, by omega, pl, fun m ms H3 im s4 nm hm => ?_⟩
          walk_at "ct"
          refine ⟨len2 rfl, fun g ng => ?_⟩
          have s5 := s3.trans s4
          have u : Same H3 (upd H3 g (.tup [.str "wheel", .int ((n + 1 : Nat) : Int), .ref m, .ref l])) := same_upd ng
          refine q g _ (s5.trans u) ⟨s5.free ng, .inr ⟨n + 1, m, l, ms, us, bars, upd_same, u _ _ hm, u _ _ ((s2.trans s4) _ _ hl), dpAll_same ((s2.trans s4).trans u) hu, s3.free nm, nlH, ?_⟩⟩
          exact ⟨nw, by omega, by omega, freeB_iff.mpr free, im, by omega, hb⟩
        · walk_at "ct"
          refine ⟨rfl, ?_⟩
          walk_at "ct"
          refine w_ite (fun z => nomatch z) (fun _ => ?_)
          walk_at "ct"
          refine ⟨ty_list (s2 _ _ hl), ?_⟩
          walk_at "ct"
          refine w_append (s2 _ _ hl) (Nat.lt_of_le_of_lt (show us.length ≤ 1001 by omega) (by decide)) ?_
          refine ⟨_, _, us ++ [.ref g], bars ++ [(j, k)], rfl, same_new (sG.trans s2) nlH, upd_same, ?_, by rw [List.length_append, bl]; rfl, fun i b e => ?_⟩
          · rw [List.map_append]
            exact dpAll_wr (s2 _ _ hl) (dpAll_app (dpAll_same s2 hu) (.cons (.tup (.of hg) (.cons (.int _) (.cons (.int _) .nil))) .nil)) (by
              have := barD_nl (bars ++ [(j, k)])
              rw [List.map_append] at this
              exact this)
          · by_cases z : i < bars.length
            · rw [List.getElem?_append_left z] at e
              exact hb i b e
            · rw [List.getElem?_append_right (by omega)] at e
              have i0 : i - bars.length = 0 := by
                have := (List.getElem?_eq_some_iff.mp e).1
                simp at this
                omega
              rw [i0] at e
              cases Option.some.inj e
              rw [show i = n by omega]
              exact cl
      · rintro σ G ⟨y4, y5, us, bars, rfl, sG, hl, hu, bl, hb⟩
        have N2 : 1 ≤ N := by omega
        obtain ⟨b, hbb⟩ : ∃ b, bars[N - 1]? = some b := ⟨_, List.getElem?_eq_getElem (by omega)⟩
        obtain ⟨v, hv, hdv⟩ := dpAll_get hu (i := N - 1) (d := barD b) (by rw [List.getElem?_map, hbb]; rfl)
        have cl := hb _ _ hbb
        obtain ⟨g, vs, rfl, hg, hgs⟩ := tup_inv hdv
        cases dpAll_ints_inv [(b.1 : Int), (b.2 : Int)] hgs
        clear hdv hgs
        have ul : us.length = N := by rw [dpAll_len hu, List.length_map, bl]
        walk_at "ct"
        refine w_ixL (.of hl) (v := .ref g) ?_ ?_
        · unfold atI
          rw [show ixN us.length (-1) = some (N - 1) by
            unfold ixN
            rw [if_neg (by decide), if_pos (by omega)]
            congr 1
            omega]
          exact hv
        · have hg' : SqT K G g [.int (b.1 : Int), .int (b.2 : Int)] := hg
          refine w_gtup hg' rfl ?_
          walk_at "ct"
          refine ⟨len2 rfl, fun r nr => ?_⟩
          refine q r _ (sG.trans (same_upd nr)) ⟨sG.free nr, .inl ⟨b.1, b.2, upd_same, .inr ⟨nw, ?_⟩⟩⟩
          have lt := cl.2.1.lt
          have c1 := cl.1
          rw [show N - 1 + 1 = ps.length by omega] at cl
          exact cl
abbrev S_smallest_behind : Stmt := topS 33
theorem sc_smallest_behind : FnScope ["train", "stand", "shows"] ["train", "stand", "shows"] (defScope S_smallest_behind) := ⟨rfl, rfl, rfl, by decide +kernel, rfl, by decide +kernel, by decide +kernel⟩
def sp_smallest_behind (K : PySem.W.Frag) (T : List Addr) : Sp := fun vs H Q _ => ∃ (a t b : Addr) (ps : List Part) (xs : List Int) (ws : List V) (ss : List (Int × Int)), vs = [.ref a, .ref t, .ref b] ∧ TrainAt K H a ps ∧ (∀ p ∈ ps, p.ok) ∧ 1 ≤ ps.length ∧ ps.length ≤ 1000 ∧ SqT K H t (xs.map V.int) ∧ StandOk ps xs ∧ SqL K H b ws ∧ DpAll K H ws (ss.map sh2D) ∧ (∀ s ∈ ss, Sh2Ok s) ∧ ss.length ≤ 1000 ∧ Tb T H ∧
  ∀ g H', Same H H' → SmOk K (passN (fedS ps xs (ss.map (·.1))).2 ss ss.length) H H' g → Q (.ref g) H'
theorem ok_smallest_behind {f : Addr} {fd : FuncData} {f_passes_behind : Addr} {fd_passes_behind : FuncData} {f_smallest_of : Addr} {fd_smallest_of : FuncData} {T : List Addr} (F : Fun K "smallest_behind" "smallest_behind" S_smallest_behind f fd)
    (F_passes_behind : Fun K "passes_behind" "passes_behind" S_passes_behind f_passes_behind fd_passes_behind) (b_passes_behind : Binds K fd_passes_behind ["train", "stand", "shows"] []) (g_passes_behind : mg "passes_behind" = some (.ref f_passes_behind)) (G_passes_behind : FnOk P w K mg base CX0 8 f_passes_behind fd_passes_behind ["train", "stand", "shows"] (sp_passes_behind K T))
    (F_smallest_of : Fun K "smallest_of" "smallest_of" S_smallest_of f_smallest_of fd_smallest_of) (b_smallest_of : Binds K fd_smallest_of ["passes"] []) (g_smallest_of : mg "smallest_of" = some (.ref f_smallest_of)) (G_smallest_of : FnOk P w K mg base CX0 3 f_smallest_of fd_smallest_of ["passes"] (sp_smallest_of K)) :
    FnOk P w K mg base CX0 9 f fd ["train", "stand", "shows"] (sp_smallest_behind K T) := by
  refine F.ok sc_smallest_behind (fun vs H Q E h => ?_) (fun cdv A outer s H vs Q E hr h => ?_)
  ·
    obtain ⟨a, t, b, ps, xs, ws, ss, rfl, _⟩ := h
    rfl
  ·
    obtain ⟨a, t, b, ps, xs, ws, ss, rfl, hT, hok, p1, p2, hS, hso, hb, hd, oks, sl, hTb, q⟩ := h
    refine ⟨_, (pss_one (ps_ret (pe_call G_smallest_of (hr.mono (by decide)) (by rfl) g_smallest_of F_smallest_of.kp b_smallest_of .nil pass0 (pa_cons (pe_call G_passes_behind (hr.mono (by decide)) (by rfl) g_passes_behind F_passes_behind.kp b_passes_behind .nil pass0 (pa_cons (pv 0) (pa_cons (pv 1) (pa_cons (pv 2) pa_nil)))) pa_nil)))), ?_⟩
    refine w_st (σ' := [some (.ref a), some (.ref t), some (.ref b)]) rfl ?_
    walk_at "ct"
    refine ⟨a, t, b, ps, xs, ws, ss, rfl, hT, hok, p1, p2, hS, hso, hb, hd, oks, sl, hTb, fun l us H1 s1 nl hl hu => ?_⟩
    have fl : (fedS ps xs (ss.map (·.1))).2.length = ss.length := by rw [fedS_len, List.length_map]
    have wk := walky_pass (comes_ok (ps := ps) (xs := xs) oks) fl
    walk_at "ct"
    refine ⟨l, us, _, rfl, .of hl, hu, by rw [pass_len fl]; exact sl, wk, fun g H2 s2 ok => q g H2 (s1.trans s2) ⟨s1.free ok.1, ?_⟩⟩
    rcases ok.2 with h | ⟨t, m, b, ms, us, bars, h1, h2, h3, h4, h5, h6, h7⟩
    · exact .inl h
    · exact .inr ⟨t, m, b, ms, us, bars, h1, h2, h3, h4, s1.free h5, s1.free h6, h7⟩
abbrev S_are_places : Stmt := topS 34
theorem sc_are_places : FnScope ["j", "k", "passes"] ["j", "k", "passes"] (defScope S_are_places) := ⟨rfl, rfl, rfl, by decide +kernel, rfl, by decide +kernel, by decide +kernel⟩
def sp_are_places (K : PySem.W.Frag) : Sp := fun vs H Q _ => ∃ (v u : V) (x y : PyData) (a : Addr) (ws : List V), vs = [v, u, .ref a] ∧ Dp K H v x ∧ Dp K H u y ∧ SqL K H a ws ∧ Q (.bl (plB x y ws.length)) H
theorem ok_are_places {f : Addr} {fd : FuncData} {f_is_whole : Addr} {fd_is_whole : FuncData} (F : Fun K "are_places" "are_places" S_are_places f fd)
    (F_is_whole : Fun K "is_whole" "is_whole" S_is_whole f_is_whole fd_is_whole) (b_is_whole : Binds K fd_is_whole ["thing"] []) (g_is_whole : mg "is_whole" = some (.ref f_is_whole)) (G_is_whole : FnOk P w K mg base CX0 1 f_is_whole fd_is_whole ["thing"] (sp_is_whole K)) (m_len : mg "len" = none) :
    FnOk P w K mg base CX0 2 f fd ["j", "k", "passes"] (sp_are_places K) := by
  refine F.ok sc_are_places (fun vs H Q E h => ?_) (fun cdv A outer s H vs Q E hr h => ?_)
  ·
    obtain ⟨v, u, x, y, a, ws, rfl, _⟩ := h
    rfl
  ·
    obtain ⟨v, u, x, y, a, ws, rfl, hx, hy, ha, q⟩ := h
    refine ⟨_, (pss_one (ps_ret (pe_and (pe_call G_is_whole (hr.mono (by decide)) (by rfl) g_is_whole F_is_whole.kp b_is_whole .nil pass0 (pa_cons (pv 0) pa_nil)) (pe_and (pe_call G_is_whole (hr.mono (by decide)) (by rfl) g_is_whole F_is_whole.kp b_is_whole .nil pass0 (pa_cons (pv 1) pa_nil)) (pe_one (pe_chain3 op_le op_le op_lt pe_int (pv 0) (pv 1) (pe_callB call_len_seq (by rfl) m_len (by decide +kernel) (pa_cons (pv 2) pa_nil)))))))), ?_⟩
    refine w_st (σ' := [some v, some u, some (.ref a)]) rfl ?_
    walk_at "ct"
    refine ⟨_, _, rfl, hx, ?_⟩
    cases hx with
    | int j =>
      rw [show isW (.int j) = true from rfl]
      walk_at "ct"
      refine ⟨_, _, rfl, hy, ?_⟩
      cases hy with
      | int k =>
        rw [show isW (.int k) = true from rfl]
        have q : Q (.bl (decide (0 ≤ j) && (decide (j ≤ k) && decide (k < (ws.length : Int))))) H := q
        walk_at "ct"
        refine w_ch3 ?_
        walk_at "ct"
        refine w_ite (fun e1 => ?_) (fun e1 => ?_)
        · rw [decide_eq_true e1] at q
          walk_at "ct"
          refine w_ite (fun e2 => ?_) (fun e2 => ?_)
          · rw [decide_eq_true e2] at q
            walk_at "ct"
            refine ⟨a, ws, rfl, .inl ha, ?_⟩
            walk_at "ct"
            exact q
          · rw [decide_eq_false e2] at q
            exact q
        · rw [decide_eq_false e1] at q
          exact q
      | non =>
        rw [show isW .none = false from rfl]
        walk_at "ct"
        exact q
      | bl b =>
        rw [show isW (.bool b) = false from rfl]
        walk_at "ct"
        exact q
      | str x =>
        rw [show isW (.str x) = false from rfl]
        walk_at "ct"
        exact q
      | lst a1 a2 =>
        rw [show isW (.list _) = false from rfl]
        walk_at "ct"
        exact q
      | tup a1 a2 =>
        rw [show isW (.tuple _) = false from rfl]
        walk_at "ct"
        exact q
    | non =>
      rw [show isW .none = false from rfl]
      walk_at "ct"
      exact q
    | bl b =>
      rw [show isW (.bool b) = false from rfl]
      walk_at "ct"
      exact q
    | str x =>
      rw [show isW (.str x) = false from rfl]
      walk_at "ct"
      exact q
    | lst a1 a2 =>
      rw [show isW (.list _) = false from rfl]
      walk_at "ct"
      exact q
    | tup a1 a2 =>
      rw [show isW (.tuple _) = false from rfl]
      walk_at "ct"
      exact q
abbrev S_is_bar : Stmt := topS 35
theorem sc_is_bar : FnScope ["passes", "teeth", "thing", "one", "other"] ["passes", "teeth", "thing"] (defScope S_is_bar) := ⟨rfl, rfl, rfl, by decide +kernel, rfl, by decide +kernel, by decide +kernel⟩
def sp_is_bar (K : PySem.W.Frag) : Sp := fun vs H Q _ => ∃ (a : Addr) (ws : List V) (ps : List Pass) (t : Int) (v : V) (d : PyData), vs = [.ref a, .int t, v] ∧ SqL K H a ws ∧ DpAll K H ws (ps.map passD) ∧ 1 ≤ t ∧ Dp K H v d ∧ Q (.bl (isBarB ps t d)) H
theorem ok_is_bar {f : Addr} {fd : FuncData} {f_are_unlike : Addr} {fd_are_unlike : FuncData} {f_are_places : Addr} {fd_are_places : FuncData} (F : Fun K "is_bar" "is_bar" S_is_bar f fd)
    (F_are_unlike : Fun K "are_unlike" "are_unlike" S_are_unlike f_are_unlike fd_are_unlike) (b_are_unlike : Binds K fd_are_unlike ["one", "other"] []) (g_are_unlike : mg "are_unlike" = some (.ref f_are_unlike)) (G_are_unlike : FnOk P w K mg base CX0 1 f_are_unlike fd_are_unlike ["one", "other"] (sp_are_unlike K))
    (F_are_places : Fun K "are_places" "are_places" S_are_places f_are_places fd_are_places) (b_are_places : Binds K fd_are_places ["j", "k", "passes"] []) (g_are_places : mg "are_places" = some (.ref f_are_places)) (G_are_places : FnOk P w K mg base CX0 2 f_are_places fd_are_places ["j", "k", "passes"] (sp_are_places K)) (m_isinstance : mg "isinstance" = none) (m_tuple : mg "tuple" = none) (m_len : mg "len" = none) :
    FnOk P w K mg base CX0 3 f fd ["passes", "teeth", "thing"] (sp_is_bar K) := by
  refine F.ok sc_is_bar (fun vs H Q E h => ?_) (fun cdv A outer s H vs Q E hr h => ?_)
  ·
    obtain ⟨a, ws, ps, t, v, d, rfl, _⟩ := h
    rfl
  ·
    obtain ⟨a, ws, ps, t, v, d, rfl, ha, hd, t1, hv, q⟩ := h
    refine ⟨_, (pss_cons (ps_if (PW.pt (pw_or (pt_not (pt_val (pe_callB (r := rIsi K) call_isi (by rfl) m_isinstance (by decide +kernel) (pa_cons (pv 2) (pa_cons (pe_bltn (v := .ty "tuple") (u := .type "tuple") (by rfl) m_tuple (by decide +kernel) rfl) pa_nil))))) (pw_or (pt_cmpR op_ne (pe_callB call_len_seq (by rfl) m_len (by decide +kernel) (pa_cons (pv 2) pa_nil)) pe_int (nomark _)) (pw_or1 (pt_not (pt_val (pe_call G_are_places (hr.mono (by decide)) (by rfl) g_are_places F_are_places.kp b_are_places .nil pass0 (pa_cons (pe_ix (r := rIxT K) ix_tup (pv 2) pe_int (fun _ _ => rfl)) (pa_cons (pe_ix (r := rIxT K) ix_tup (pv 2) pe_int (fun _ _ => rfl)) (pa_cons (pv 0) pa_nil)))))))))) (pss_one (ps_ret pe_bl)) pss_nil)
      (pss_cons (ps_set (i := 3) sc_is_bar.nd rfl (.inl rfl) (pe_ix (r := rIxL K) ix_list (pv 0) (pe_ix (r := rIxT K) ix_tup (pv 2) pe_int (fun _ _ => rfl)) (fun _ _ => rfl)))
      (pss_cons (ps_set (i := 4) sc_is_bar.nd rfl (.inl rfl) (pe_ix (r := rIxL K) ix_list (pv 0) (pe_ix (r := rIxT K) ix_tup (pv 2) pe_int (fun _ _ => rfl)) (fun _ _ => rfl)))
      (pss_one (ps_ret (pe_and (pe_cmpR op_eq (pe_op op_mod (pe_op op_sub (pe_ix (r := rIxT K) ix_tup (pv 3) pe_int (fun _ _ => rfl)) (pe_ix (r := rIxT K) ix_tup (pv 4) pe_int (fun _ _ => rfl))) (pv 1)) pe_int (nomark _)) (pe_one (pe_call G_are_unlike (hr.mono (by decide)) (by rfl) g_are_unlike F_are_unlike.kp b_are_unlike .nil pass0 (pa_cons (pv 3) (pa_cons (pv 4) pa_nil)))))))))), ?_⟩
    refine w_st (σ' := [some (.ref a), some (.int t), some v, none, none]) rfl ?_
    have wl : ws.length = ps.length := by rw [dpAll_len hd, List.length_map]
    walk_at "ct"
    cases hv with
    | non =>
      refine w_isi (b := false) (.base .non) (kit_ty (by decide +kernel)) ?_
      walk_at "ct"
      exact q
    | bl b =>
      refine w_isi (b := false) (.base (.bl b)) (kit_ty (by decide +kernel)) ?_
      walk_at "ct"
      exact q
    | int i =>
      refine w_isi (b := false) (.base (.int i)) (kit_ty (by decide +kernel)) ?_
      walk_at "ct"
      exact q
    | str x =>
      refine w_isi (b := false) (.base (.str x)) (kit_ty (by decide +kernel)) ?_
      walk_at "ct"
      exact q
    | lst hs ht =>
      refine w_isi (b := false) (tyx_L hs) (kit_ty (by decide +kernel)) ?_
      walk_at "ct"
      exact q
    | tup hs ht =>
      refine w_isi (b := true) (tyx_T hs) (kit_ty (by decide +kernel)) ?_
      walk_at "ct"
      refine ⟨_, _, rfl, .inr hs, ?_⟩
      cases ht with
      | nil =>
        walk_at "ct"
        refine w_iteN (fun _ => ?_) (fun e => absurd e (by decide))
        walk_at "ct"
        exact q
      | cons h1 t1 =>
        cases t1 with
        | nil =>
          walk_at "ct"
          refine w_iteN (fun _ => ?_) (fun e => absurd e (by simp))
          walk_at "ct"
          exact q
        | cons h2 t2 =>
          cases t2 with
          | cons h3 t3 =>
            walk_at "ct"
            refine w_iteN (fun _ => ?_) (fun e => absurd e (by simp only [List.length_cons]; omega))
            walk_at "ct"
            exact q
          | nil =>
            rename_i v1 d1 v2 d2
            have q : Q (.bl (plB d1 d2 ps.length && twoN d1 d2 (barN ps t))) H := q
            walk_at "ct"
            refine w_iteN (fun e => absurd rfl e) (fun _ => ?_)
            walk_at "ct"
            refine ⟨_, _, _, _, a, ws, rfl, h1, h2, ha, ?_⟩
            rw [wl]
            cases hp : plB d1 d2 ps.length with
            | false =>
              rw [hp] at q
              walk_at "ct"
              exact q
            | true =>
              rw [hp] at q
              obtain ⟨j, k, rfl, rfl, jk, kn⟩ := plB_inv hp
              cases h1
              cases h2
              have q : Q (.bl (barN ps t j k)) H := q
              obtain ⟨p, hpj⟩ : ∃ p, ps[j]? = some p := ⟨_, List.getElem?_eq_getElem (by omega)⟩
              obtain ⟨r, hrk⟩ : ∃ r, ps[k]? = some r := ⟨_, List.getElem?_eq_getElem kn⟩
              obtain ⟨vj, hvj, hdj⟩ := dpAll_get hd (i := j) (d := passD p) (by rw [List.getElem?_map, hpj]; rfl)
              obtain ⟨vk, hvk, hdk⟩ := dpAll_get hd (i := k) (d := passD r) (by rw [List.getElem?_map, hrk]; rfl)
              obtain ⟨gj, rfl, hgj⟩ := pass_inv hdj
              obtain ⟨gk, rfl, hgk⟩ := pass_inv hdk
              unfold barN at q
              rw [hpj, hrk] at q
              have q : Q (.bl (decide ((p.2.1 - r.2.1) % t = 0) && unlk p r)) H := q
              walk_at "ct"
              refine w_ixL ha (at_of (j := j) rfl hvj) ?_
              walk_at "ct"
              refine w_ixL ha (at_of (j := k) rfl hvk) ?_
              walk_at "ct"
              refine w_rI (show (0 : Int) < t by omega) ?_
              walk_at "ct"
              refine w_ite (fun e => ?_) (fun e => ?_)
              · rw [decide_eq_true e] at q
                walk_at "ct"
                exact ⟨_, _, p, r, rfl, hdj, hdk, q⟩
              · rw [decide_eq_false e] at q
                exact q
abbrev S_does : Stmt := topS 36
theorem sc_does : FnScope ["passes", "teeth", "marks", "marked", "came", "tooth", "shown"] ["passes", "teeth", "marks"] (defScope S_does) := ⟨rfl, rfl, rfl, by decide +kernel, rfl, by decide +kernel, by decide +kernel⟩
def sp_does (K : PySem.W.Frag) : Sp := fun vs H Q _ => ∃ (a m : Addr) (ws : List V) (ps : List Pass) (t : Int) (ms : List Int), vs = [.ref a, .int t, .ref m] ∧ SqL K H a ws ∧ DpAll K H ws (ps.map passD) ∧ 1 ≤ t ∧ SqT K H m (ms.map V.int) ∧ ms.length ≤ 4000 ∧ ∀ H', Same H H' → Q (.bl (doesB t ms ps)) H'
theorem ok_does {f : Addr} {fd : FuncData} (F : Fun K "does" "does" S_does f fd) (m_set : mg "set" = none) :
    FnOk P w K mg base CX0 1 f fd ["passes", "teeth", "marks"] (sp_does K) := by
  refine F.ok sc_does (fun vs H Q E h => ?_) (fun cdv A outer s H vs Q E hr h => ?_)
  ·
    obtain ⟨a, m, ws, ps, t, ms, rfl, _⟩ := h
    rfl
  ·
    obtain ⟨a, m, ws, ps, t, ms, rfl, ha, hd, t1, hm, ml, q⟩ := h
    refine ⟨_, (pss_cons (ps_set (i := 3) sc_does.nd rfl (.inl rfl) (pe_callTy (r := rSetI K w) (cr_setI rfl) (by rfl) m_set (by decide +kernel) (pa_cons (pv 2) pa_nil)))
      (pss_cons (ps_for PassesOwn.never rfl (pi_list (pv 0)) (pg_tup rfl (pgs_cons (pg_name (i := 4) sc_does.nd rfl (.inl rfl)) (pgs_cons (pg_name (i := 5) sc_does.nd rfl (.inl rfl)) (pgs_cons (pg_name (i := 6) sc_does.nd rfl (.inl rfl)) pgs_nil))))
      (pss_one (ps_if (pt_cmpR op_ne (pv 6) (pe_ifExp (pt_cmpR (r := rSIn w) or_sin (pe_op op_mod (pv 5) (pv 1)) (pv 3) (by rfl)) (pv 4) pe_int) (nomark _)) (pss_one (ps_ret pe_bl)) pss_nil)))
      (pss_one (ps_ret pe_bl)))), ?_⟩
    refine w_st (σ' := [some (.ref a), some (.int t), some (.ref m), none, none, none, none]) rfl ?_
    have wl : ws.length = ps.length := by rw [dpAll_len hd, List.length_map]
    walk_at "ct"
    refine ⟨m, ms, rfl, .inr hm, ml, fun st c nst _ => ?_⟩
    have s1 : Same H (upd H st (IntSet w st (fun j => decide (j ∈ ms), c))) := same_upd nst
    have hst : (upd H st (IntSet w st (fun j => decide (j ∈ ms), c))) st = some (IntSet w st (fun j => decide (j ∈ ms), c)) := upd_same
    generalize upd H st _ = H1 at *
    walk_at "ct"
    refine w_IL (s1.seq ha) ?_
    refine fb_list ws (fun n σ G => ∃ (y4 y5 y6 : Option V), σ = [some (.ref a), some (.int t), some (.ref m), some (.ref st), y4, y5, y6] ∧ G = H1 ∧ doesB t ms (ps.take n) = true) ⟨none, none, none, rfl, rfl, rfl⟩ ?_ ?_ ?_
    · rintro n σ G _ ⟨y4, y5, y6, rfl, rfl, _⟩
      exact s1.seq ha
    · rintro n v σ G hx ⟨y4, y5, y6, rfl, rfl, al⟩
      have hn : n < ws.length := (List.getElem?_eq_some_iff.mp hx).1
      obtain ⟨p, hp⟩ : ∃ p, ps[n]? = some p := ⟨_, List.getElem?_eq_getElem (by omega)⟩
      obtain ⟨v', hv1, hd1⟩ := dpAll_get hd (i := n) (d := passD p) (by rw [List.getElem?_map, hp]; rfl)
      cases Option.some.inj (hx.symm.trans hv1)
      obtain ⟨b, rfl, hb⟩ := pass_inv (dp_same s1 hd1)
      have no : p.2.2 ≠ (if p.2.1 % t ∈ ms then p.1 else 0) → doesB t ms ps = false := fun ne => by
        unfold doesB
        rw [List.all_eq_false]
        exact ⟨p, List.mem_of_getElem? hp, by rw [decide_eq_false ne]; exact Bool.false_ne_true⟩
      have yes : p.2.2 = (if p.2.1 % t ∈ ms then p.1 else 0) → doesB t ms (ps.take (n + 1)) = true := fun e => by
        unfold doesB at al ⊢
        rw [List.take_add_one, hp, Option.toList_some, List.all_append, al, List.all_cons, decide_eq_true e]
        rfl
      refine w_gtup hb rfl ?_
      walk_at "ct"
      refine w_rI (show (0 : Int) < t by omega) ?_
      walk_at "ct"
      refine ⟨p.2.1 % t, st, _, c, rfl, rfl, hst, ?_⟩
      walk_at "ct"
      refine w_ite (fun e => ?_) (fun e => ?_)
      · rw [if_pos e] at no yes
        walk_at "ct"
        refine w_iteN (fun ne => ?_) (fun eq => ?_)
        · walk_at "ct"
          rw [no ne] at q
          exact q _ s1
        · walk_at "ct"
          exact ⟨_, _, _, rfl, rfl, yes eq⟩
      · rw [if_neg e] at no yes
        walk_at "ct"
        refine w_iteN (fun ne => ?_) (fun eq => ?_)
        · walk_at "ct"
          rw [no ne] at q
          exact q _ s1
        · walk_at "ct"
          exact ⟨_, _, _, rfl, rfl, yes eq⟩
    · rintro σ G ⟨y4, y5, y6, rfl, rfl, al⟩
      rw [List.take_of_length_le (by omega)] at al
      walk_at "ct"
      rw [al] at q
      exact q _ s1
abbrev S_tells_wheel : Stmt := topS 37
theorem sc_tells_wheel : FnScope ["passes", "teeth", "marks", "bars", "fewer", "bar"] ["passes", "teeth", "marks", "bars"] (defScope S_tells_wheel) := ⟨rfl, rfl, rfl, by decide +kernel, rfl, by decide +kernel, by decide +kernel⟩
def sp_tells_wheel (K : PySem.W.Frag) (T : List Addr) : Sp := fun vs H Q _ => ∃ (a : Addr) (ws : List V) (ps : List Pass) (v1 v2 v3 : V) (d1 d2 d3 : PyData), vs = [.ref a, v1, v2, v3] ∧ SqL K H a ws ∧ DpAll K H ws (ps.map passD) ∧ Dp K H v1 d1 ∧ Dp K H v2 d2 ∧ Dp K H v3 d3 ∧ (marksD d2).length ≤ 4000 ∧ Tb T H ∧ ∀ H', Same H H' → Q (.bl (twB ps d1 d2 d3)) H'
theorem ok_tells_wheel {f : Addr} {fd : FuncData} {f_does : Addr} {fd_does : FuncData} {f_are_marks : Addr} {fd_are_marks : FuncData} {f_is_bar : Addr} {fd_is_bar : FuncData} {f_is_whole : Addr} {fd_is_whole : FuncData} {T : List Addr} {cT PT : Addr} (F : Fun K "tells_wheel" "tells_wheel" S_tells_wheel f fd)
    (F_does : Fun K "does" "does" S_does f_does fd_does) (b_does : Binds K fd_does ["passes", "teeth", "marks"] []) (g_does : mg "does" = some (.ref f_does)) (G_does : FnOk P w K mg base CX0 1 f_does fd_does ["passes", "teeth", "marks"] (sp_does K))
    (F_are_marks : Fun K "are_marks" "are_marks" S_are_marks f_are_marks fd_are_marks) (b_are_marks : Binds K fd_are_marks ["thing", "teeth"] []) (g_are_marks : mg "are_marks" = some (.ref f_are_marks)) (G_are_marks : FnOk P w K mg base CX0 2 f_are_marks fd_are_marks ["thing", "teeth"] (sp_are_marks K))
    (F_is_bar : Fun K "is_bar" "is_bar" S_is_bar f_is_bar fd_is_bar) (b_is_bar : Binds K fd_is_bar ["passes", "teeth", "thing"] []) (g_is_bar : mg "is_bar" = some (.ref f_is_bar)) (G_is_bar : FnOk P w K mg base CX0 3 f_is_bar fd_is_bar ["passes", "teeth", "thing"] (sp_is_bar K))
    (F_is_whole : Fun K "is_whole" "is_whole" S_is_whole f_is_whole fd_is_whole) (b_is_whole : Binds K fd_is_whole ["thing"] []) (g_is_whole : mg "is_whole" = some (.ref f_is_whole)) (G_is_whole : FnOk P w K mg base CX0 1 f_is_whole fd_is_whole ["thing"] (sp_is_whole K)) (m_all : mg "all" = none) (m_isinstance : mg "isinstance" = none) (m_list : mg "list" = none) (m_len : mg "len" = none) (m_enumerate : mg "enumerate" = none)
    (TB_tells_wheel : GxR.TabB base mg cT PT) (HC_tells_wheel : fd.code = .ref cT) (tm : PT ∈ T) :
    FnOk P w K mg base CX0 5 f fd ["passes", "teeth", "marks", "bars"] (sp_tells_wheel K T) := by
  refine okC F sc_tells_wheel (fun vs H Q E h => ?_) (fun A outer s H vs Q E hr h => ?_)
  ·
    obtain ⟨a, ws, ps, v1, v2, v3, d1, d2, d3, rfl, _⟩ := h
    rfl
  ·
    obtain ⟨a, ws, ps, v1, v2, v3, d1, d2, d3, rfl, ha, hd, h1, h2, h3, ml, hTb, q⟩ := h
    refine ⟨_, (pss_cons (ps_if (PW.pt (pw_or (pt_not (pt_val (pe_call G_is_whole (hr.mono (by decide)) (by rfl) g_is_whole F_is_whole.kp b_is_whole .nil pass0 (pa_cons (pv 1) pa_nil)))) (pw_or (pt_cmpR op_lt (pv 1) pe_int (nomark _)) (pw_or (pt_not (pt_val (pe_callB (r := rIsi K) call_isi (by rfl) m_isinstance (by decide +kernel) (pa_cons (pv 3) (pa_cons (pe_bltn (v := .ty "list") (u := .type "list") (by rfl) m_list (by decide +kernel) rfl) pa_nil))))) (pw_or1 (pt_cmpR op_ne (pe_callB call_len_seq (by rfl) m_len (by decide +kernel) (pa_cons (pv 3) pa_nil)) (pe_op op_sub (pv 1) pe_int) (nomark _))))))) (pss_one (ps_ret pe_bl)) pss_nil)
      (pss_cons (ps_if (pt_not (pt_val (pe_allX (own := [("fewer", 4), ("bar", 5)]) (g := (gTup K 2 (gCons (gName 4) (gCons (gName 5) gNil)))) hr (by rfl) m_all rfl sc_tells_wheel.nd TB_tells_wheel HC_tells_wheel (pi_enumS (by rfl) m_enumerate (pa_cons (pv 3) pa_nil) (pk_cons pe_int pk_nil)) (blkOk_by (own := [("fewer", 4), ("bar", 5)]) (N := ["passes", "teeth", "marks", "bars", "fewer", "bar"]) (sc := defScope S_tells_wheel) (by decide +kernel)) (by decide +kernel) rfl (by decide +kernel) (fun _ _ _ _ _ _ _ _ => (pg_tup rfl (pgs_cons (pg_name (i := 4) sc_tells_wheel.nd rfl (Or.inl rfl)) (pgs_cons (pg_name (i := 5) sc_tells_wheel.nd rfl (Or.inl rfl)) pgs_nil)))) (fun _ _ _ _ _ _ _ _ hr => (pe_call G_is_bar (hr.mono (by decide)) (by rfl) g_is_bar F_is_bar.kp b_is_bar .nil pass0 (pa_cons (pv 0) (pa_cons (pv 4) (pa_cons (pv 5) pa_nil)))))))) (pss_one (ps_ret pe_bl)) pss_nil)
      (pss_one (ps_ret (pe_and (pe_call G_are_marks (hr.mono (by decide)) (by rfl) g_are_marks F_are_marks.kp b_are_marks .nil pass0 (pa_cons (pv 2) (pa_cons (pv 1) pa_nil))) (pe_one (pe_call G_does (hr.mono (by decide)) (by rfl) g_does F_does.kp b_does .nil pass0 (pa_cons (pv 0) (pa_cons (pv 1) (pa_cons (pv 2) pa_nil)))))))))), ?_⟩
    refine w_st (σ' := [some (.ref a), some v1, some v2, some v3, none, none]) rfl ?_
    walk_at "ct"
    refine ⟨_, _, rfl, h1, ?_⟩
    cases h1 with
    | int t =>
      rw [show isW (.int t) = true from rfl]
      walk_at "ct"
      refine w_ite (fun e => ?_) (fun e => ?_)
      · walk_at "ct"
        have z : twB ps (.int t) d2 d3 = false := twB_low e
        rw [z] at q
        exact q H (Same.refl H)
      · walk_at "ct"
        cases h3 with
        | lst hs ht =>
          rename_i b us bs
          have ul : us.length = bs.length := dpAll_len ht
          have q : ∀ H', Same H H' → Q (.bl (decide (1 ≤ t) && (decide ((bs.length : Int) = t - 1) && (barsF ps 0 bs && (areM d2 t && doesB t (marksD d2) ps))))) H' := q
          rw [decide_eq_true (show 1 ≤ t by omega), Bool.true_and] at q
          refine w_isi (b := true) (tyx_L hs) (kit_ty (by decide +kernel)) ?_
          walk_at "ct"
          refine ⟨b, us, rfl, .inl hs, ?_⟩
          walk_at "ct"
          refine w_iteN (fun ne => ?_) (fun eq => ?_)
          · rw [decide_eq_false (show ¬ (bs.length : Int) = t - 1 by omega)] at q
            walk_at "ct"
            exact q H (Same.refl H)
          · rw [decide_eq_true (show (bs.length : Int) = t - 1 by omega), Bool.true_and] at q
            walk_at "ct"
            refine w_iens ?_
            walk_at "ct"
            refine w_IES hs (by decide) (by decide) ?_
            refine gb_it (walkS us) (fun i H2 => Same H H2 ∧ barsF ps 0 bs = barsF ps i (bs.drop i)) (hTb _ tm) ⟨Same.refl _, rfl⟩ (fun i H2 _ h => h.1.seq hs) ?_ ?_
            · rintro i x H2 H3 hi ⟨s2, eb⟩ ⟨Tp, y, rfl, nT, rfl, hy⟩
              obtain ⟨bd, hbd⟩ : ∃ bd, bs[i]? = some bd := ⟨_, List.getElem?_eq_getElem (by omega)⟩
              obtain ⟨v', hv1, hdv⟩ := dpAll_get ht hbd
              cases Option.some.inj (hy.symm.trans hv1)
              have sT : Same H2 (upd H2 Tp (.tup [.int (1 + (i : Int)), y])) := same_upd nT
              have hT : (upd H2 Tp (.tup [.int (1 + (i : Int)), y])) Tp = some (.tup [.int (1 + (i : Int)), y]) := upd_same
              generalize upd H2 Tp _ = H4 at *
              have s3 := s2.trans sT
              have ed : bs.drop i = bd :: bs.drop (i + 1) := by
                rw [List.drop_eq_getElem_cons (by omega)]
                congr 1
                exact (List.getElem?_eq_some_iff.mp hbd).2
              rw [ed, barsF] at eb
              refine w_gtup (.of hT) rfl ?_
              walk_at "ct"
              refine ⟨rfl, ?_⟩
              walk_at "ct"
              refine ⟨a, ws, ps, _, y, bd, rfl, s3.seq ha, dpAll_same s3 hd, by omega, dp_same s3 hdv, ⟨_, rfl, ?_⟩⟩
              rw [show (1 : Int) + (i : Int) = ((i + 1 : Nat) : Int) by omega]
              cases e2 : isBarB ps ((i + 1 : Nat) : Int) bd with
              | false =>
                rw [e2, Bool.false_and] at eb
                rw [eb] at q
                rw [if_pos rfl]
                walk_at "ct"
                exact q H4 s3
              | true =>
                rw [e2, Bool.true_and] at eb
                rw [if_neg (by decide)]
                exact ⟨s3, eb⟩
            · rintro H2 ⟨s2, eb⟩
              rw [List.drop_eq_nil_of_le (by omega)] at eb
              rw [show barsF ps 0 bs = true from eb, Bool.true_and] at q
              walk_at "ct"
              rw [show (!(!false)) = false from rfl]
              walk_at "ct"
              refine ⟨_, _, t, rfl, dp_same s2 h2, ?_⟩
              cases ea : areM d2 t with
              | false =>
                rw [ea, Bool.false_and] at q
                walk_at "ct"
                exact q H2 s2
              | true =>
                rw [ea, Bool.true_and] at q
                obtain ⟨ms, rfl, rise, em⟩ := areM_inv ea
                rw [em] at q ml
                obtain ⟨m, mv, rfl, hm, hmd⟩ := tup_inv (dp_same s2 h2)
                cases dpAll_ints_inv ms hmd
                walk_at "ct"
                refine ⟨a, m, ws, ps, t, ms, rfl, s2.seq ha, dpAll_same s2 hd, by omega, hm, ml, fun H3 s3 => ?_⟩
                exact q H3 (s2.trans s3)
        | non =>
          refine w_isi (b := false) (.base .non) (kit_ty (by decide +kernel)) ?_
          walk_at "ct"
          exact q H (Same.refl H)
        | bl b =>
          refine w_isi (b := false) (.base (.bl b)) (kit_ty (by decide +kernel)) ?_
          walk_at "ct"
          exact q H (Same.refl H)
        | int i =>
          refine w_isi (b := false) (.base (.int i)) (kit_ty (by decide +kernel)) ?_
          walk_at "ct"
          exact q H (Same.refl H)
        | str x =>
          refine w_isi (b := false) (.base (.str x)) (kit_ty (by decide +kernel)) ?_
          walk_at "ct"
          exact q H (Same.refl H)
        | tup hs ht =>
          refine w_isi (b := false) (tyx_T hs) (kit_ty (by decide +kernel)) ?_
          walk_at "ct"
          exact q H (Same.refl H)
    | non =>
      rw [show isW .none = false from rfl]
      walk_at "ct"
      exact q H (Same.refl H)
    | bl b =>
      rw [show isW (.bool b) = false from rfl]
      walk_at "ct"
      exact q H (Same.refl H)
    | str x =>
      rw [show isW (.str x) = false from rfl]
      walk_at "ct"
      exact q H (Same.refl H)
    | lst a1 a2 =>
      rw [show isW (.list _) = false from rfl]
      walk_at "ct"
      exact q H (Same.refl H)
    | tup a1 a2 =>
      rw [show isW (.tuple _) = false from rfl]
      walk_at "ct"
      exact q H (Same.refl H)
abbrev S_tells_none : Stmt := topS 38
theorem sc_tells_none : FnScope ["passes", "j", "k"] ["passes", "j", "k"] (defScope S_tells_none) := ⟨rfl, rfl, rfl, by decide +kernel, rfl, by decide +kernel, by decide +kernel⟩
def sp_tells_none (K : PySem.W.Frag) : Sp := fun vs H Q _ => ∃ (a : Addr) (ws : List V) (ps : List Pass) (v u : V) (x y : PyData), vs = [.ref a, v, u] ∧ SqL K H a ws ∧ DpAll K H ws (ps.map passD) ∧ Dp K H v x ∧ Dp K H u y ∧ ∀ H', Same H H' → Q (.bl (tnB ps x y)) H'
theorem ok_tells_none {f : Addr} {fd : FuncData} {f_are_unlike : Addr} {fd_are_unlike : FuncData} {f_is_wrong : Addr} {fd_is_wrong : FuncData} {f_are_places : Addr} {fd_are_places : FuncData} (F : Fun K "tells_none" "tells_none" S_tells_none f fd)
    (F_are_unlike : Fun K "are_unlike" "are_unlike" S_are_unlike f_are_unlike fd_are_unlike) (b_are_unlike : Binds K fd_are_unlike ["one", "other"] []) (g_are_unlike : mg "are_unlike" = some (.ref f_are_unlike)) (G_are_unlike : FnOk P w K mg base CX0 1 f_are_unlike fd_are_unlike ["one", "other"] (sp_are_unlike K))
    (F_is_wrong : Fun K "is_wrong" "is_wrong" S_is_wrong f_is_wrong fd_is_wrong) (b_is_wrong : Binds K fd_is_wrong ["push"] []) (g_is_wrong : mg "is_wrong" = some (.ref f_is_wrong)) (G_is_wrong : FnOk P w K mg base CX0 1 f_is_wrong fd_is_wrong ["push"] (sp_is_wrong K))
    (F_are_places : Fun K "are_places" "are_places" S_are_places f_are_places fd_are_places) (b_are_places : Binds K fd_are_places ["j", "k", "passes"] []) (g_are_places : mg "are_places" = some (.ref f_are_places)) (G_are_places : FnOk P w K mg base CX0 2 f_are_places fd_are_places ["j", "k", "passes"] (sp_are_places K)) :
    FnOk P w K mg base CX0 3 f fd ["passes", "j", "k"] (sp_tells_none K) := by
  refine F.ok sc_tells_none (fun vs H Q E h => ?_) (fun cdv A outer s H vs Q E hr h => ?_)
  ·
    obtain ⟨a, ws, ps, v, u, x, y, rfl, _⟩ := h
    rfl
  ·
    obtain ⟨a, ws, ps, v, u, x, y, rfl, ha, hd, hx, hy, q⟩ := h
    refine ⟨_, (pss_cons (ps_if (pt_not (pt_val (pe_call G_are_places (hr.mono (by decide)) (by rfl) g_are_places F_are_places.kp b_are_places .nil pass0 (pa_cons (pv 1) (pa_cons (pv 2) (pa_cons (pv 0) pa_nil)))))) (pss_one (ps_ret pe_bl)) pss_nil)
      (pss_cons (ps_if (pt_cmpR op_eq (pv 1) (pv 2) (nomark _)) (pss_one (ps_ret (pe_call G_is_wrong (hr.mono (by decide)) (by rfl) g_is_wrong F_is_wrong.kp b_is_wrong .nil pass0 (pa_cons (pe_ix (r := rIxL K) ix_list (pv 0) (pv 1) (fun _ _ => rfl)) pa_nil)))) pss_nil)
      (pss_one (ps_ret (pe_and (pe_cmpR op_eq (pe_ix (r := rIxT K) ix_tup (pe_ix (r := rIxL K) ix_list (pv 0) (pv 1) (fun _ _ => rfl)) pe_int (fun _ _ => rfl)) (pe_ix (r := rIxT K) ix_tup (pe_ix (r := rIxL K) ix_list (pv 0) (pv 2) (fun _ _ => rfl)) pe_int (fun _ _ => rfl)) (nomark _)) (pe_one (pe_call G_are_unlike (hr.mono (by decide)) (by rfl) g_are_unlike F_are_unlike.kp b_are_unlike .nil pass0 (pa_cons (pe_ix (r := rIxL K) ix_list (pv 0) (pv 1) (fun _ _ => rfl)) (pa_cons (pe_ix (r := rIxL K) ix_list (pv 0) (pv 2) (fun _ _ => rfl)) pa_nil))))))))), ?_⟩
    refine w_st (σ' := [some (.ref a), some v, some u]) rfl ?_
    have wl : ws.length = ps.length := by rw [dpAll_len hd, List.length_map]
    have q : ∀ H', Same H H' → Q (.bl (plB x y ps.length && twoN x y (noneN ps))) H' := q
    walk_at "ct"
    refine ⟨v, u, x, y, a, ws, rfl, hx, hy, ha, ?_⟩
    rw [wl]
    cases hp : plB x y ps.length with
    | false =>
      rw [hp] at q
      walk_at "ct"
      exact q H (Same.refl H)
    | true =>
      rw [hp] at q
      obtain ⟨j, k, rfl, rfl, jk, kn⟩ := plB_inv hp
      cases hx
      cases hy
      have q : ∀ H', Same H H' → Q (.bl (noneN ps j k)) H' := q
      obtain ⟨p, hpj⟩ : ∃ p, ps[j]? = some p := ⟨_, List.getElem?_eq_getElem (by omega)⟩
      obtain ⟨r, hrk⟩ : ∃ r, ps[k]? = some r := ⟨_, List.getElem?_eq_getElem kn⟩
      obtain ⟨vj, hvj, hdj⟩ := dpAll_get hd (i := j) (d := passD p) (by rw [List.getElem?_map, hpj]; rfl)
      obtain ⟨vk, hvk, hdk⟩ := dpAll_get hd (i := k) (d := passD r) (by rw [List.getElem?_map, hrk]; rfl)
      obtain ⟨gj, rfl, hgj⟩ := pass_inv hdj
      obtain ⟨gk, rfl, hgk⟩ := pass_inv hdk
      unfold noneN at q
      rw [hpj, hrk] at q
      have q : ∀ H', Same H H' → Q (.bl (if j = k then wrongB p else (decide (p.2.1 = r.2.1) && unlk p r))) H' := q
      walk_at "ct"
      refine w_ite (fun e => ?_) (fun e => ?_)
      · rw [if_pos (show j = k by omega)] at q
        walk_at "ct"
        refine w_ixL ha (at_of (j := j) rfl hvj) ?_
        walk_at "ct"
        refine ⟨_, p, rfl, hdj, fun H1 s1 => ?_⟩
        exact q H1 s1
      · rw [if_neg (show ¬ j = k by omega)] at q
        walk_at "ct"
        refine w_ixL ha (at_of (j := j) rfl hvj) ?_
        walk_at "ct"
        refine w_ixL ha (at_of (j := k) rfl hvk) ?_
        walk_at "ct"
        refine w_ite (fun e1 => ?_) (fun e1 => ?_)
        · rw [decide_eq_true e1] at q
          walk_at "ct"
          refine w_ixL ha (at_of (j := j) rfl hvj) ?_
          walk_at "ct"
          refine w_ixL ha (at_of (j := k) rfl hvk) ?_
          walk_at "ct"
          exact ⟨_, _, p, r, rfl, hdj, hdk, q H (Same.refl H)⟩
        · rw [decide_eq_false e1] at q
          exact q H (Same.refl H)
abbrev S_is_right : Stmt := topS 39
theorem sc_is_right : FnScope ["passes", "thing"] ["passes", "thing"] (defScope S_is_right) := ⟨rfl, rfl, rfl, by decide +kernel, rfl, by decide +kernel, by decide +kernel⟩
def sp_is_right (K : PySem.W.Frag) (T : List Addr) : Sp := fun vs H Q _ => ∃ (a : Addr) (ws : List V) (ps : List Pass) (v : V) (d : PyData), vs = [.ref a, v] ∧ SqL K H a ws ∧ DpAll K H ws (ps.map passD) ∧ Dp K H v d ∧ d.canLay0 = true ∧ d.depth ≤ 60 ∧ (∀ w x y z, d = .tuple [w, x, y, z] → (marksD y).length ≤ 4000) ∧ Tb T H ∧ ∀ H', Same H H' → Q (.bl (rightB ps d)) H'
theorem ok_is_right {f : Addr} {fd : FuncData} {f_tells_none : Addr} {fd_tells_none : FuncData} {f_tells_wheel : Addr} {fd_tells_wheel : FuncData} {T : List Addr} (F : Fun K "is_right" "is_right" S_is_right f fd)
    (F_tells_none : Fun K "tells_none" "tells_none" S_tells_none f_tells_none fd_tells_none) (b_tells_none : Binds K fd_tells_none ["passes", "j", "k"] []) (g_tells_none : mg "tells_none" = some (.ref f_tells_none)) (G_tells_none : FnOk P w K mg base CX0 3 f_tells_none fd_tells_none ["passes", "j", "k"] (sp_tells_none K))
    (F_tells_wheel : Fun K "tells_wheel" "tells_wheel" S_tells_wheel f_tells_wheel fd_tells_wheel) (b_tells_wheel : Binds K fd_tells_wheel ["passes", "teeth", "marks", "bars"] []) (g_tells_wheel : mg "tells_wheel" = some (.ref f_tells_wheel)) (G_tells_wheel : FnOk P w K mg base CX0 5 f_tells_wheel fd_tells_wheel ["passes", "teeth", "marks", "bars"] (sp_tells_wheel K T)) (m_isinstance : mg "isinstance" = none) (m_tuple : mg "tuple" = none) (m_len : mg "len" = none) :
    FnOk P w K mg base CX0 6 f fd ["passes", "thing"] (sp_is_right K T) := by
  refine F.ok sc_is_right (fun vs H Q E h => ?_) (fun cdv A outer s H vs Q E hr h => ?_)
  ·
    obtain ⟨a, ws, ps, v, d, rfl, _⟩ := h
    rfl
  ·
    obtain ⟨a, ws, ps, v, d, rfl, ha, hd, hv, lay, dep, ml, hTb, q⟩ := h
    refine ⟨_, (pss_cons (ps_if (pt_not (pt_val (pe_callB (r := rIsi K) call_isi (by rfl) m_isinstance (by decide +kernel) (pa_cons (pv 1) (pa_cons (pe_bltn (v := .ty "tuple") (u := .type "tuple") (by rfl) m_tuple (by decide +kernel) rfl) pa_nil))))) (pss_one (ps_ret pe_bl)) pss_nil)
      (pss_cons (ps_if (PW.pt (pw_and (pt_cmpR op_eq (pe_callB call_len_seq (by rfl) m_len (by decide +kernel) (pa_cons (pv 1) pa_nil)) pe_int (nomark _)) (pw_and1 (pt_cmpR (r := rEqD K) (op_eqD hr.units) (pe_ix (r := rIxT K) ix_tup (pv 1) pe_int (fun _ _ => rfl)) pe_str (nomark _))))) (pss_one (ps_ret (pe_call G_tells_wheel (hr.mono (by decide)) (by rfl) g_tells_wheel F_tells_wheel.kp b_tells_wheel .nil pass0 (pa_cons (pv 0) (pa_cons (pe_ix (r := rIxT K) ix_tup (pv 1) pe_int (fun _ _ => rfl)) (pa_cons (pe_ix (r := rIxT K) ix_tup (pv 1) pe_int (fun _ _ => rfl)) (pa_cons (pe_ix (r := rIxT K) ix_tup (pv 1) pe_int (fun _ _ => rfl)) pa_nil))))))) pss_nil)
      (pss_one (ps_ret (pe_and (pe_cmpR op_eq (pe_callB call_len_seq (by rfl) m_len (by decide +kernel) (pa_cons (pv 1) pa_nil)) pe_int (nomark _)) (pe_and (pe_cmpR (r := rEqD K) (op_eqD hr.units) (pe_ix (r := rIxT K) ix_tup (pv 1) pe_int (fun _ _ => rfl)) pe_str (nomark _)) (pe_one (pe_call G_tells_none (hr.mono (by decide)) (by rfl) g_tells_none F_tells_none.kp b_tells_none .nil pass0 (pa_cons (pv 0) (pa_cons (pe_ix (r := rIxT K) ix_tup (pv 1) pe_int (fun _ _ => rfl)) (pa_cons (pe_ix (r := rIxT K) ix_tup (pv 1) pe_int (fun _ _ => rfl)) pa_nil))))))))))), ?_⟩
    refine w_st (σ' := [some (.ref a), some v]) rfl ?_
    walk_at "ct"
    cases hv with
    | non =>
      refine w_isi (b := false) (.base .non) (kit_ty (by decide +kernel)) ?_
      walk_at "ct"
      exact q H (Same.refl H)
    | bl b =>
      refine w_isi (b := false) (.base (.bl b)) (kit_ty (by decide +kernel)) ?_
      walk_at "ct"
      exact q H (Same.refl H)
    | int i =>
      refine w_isi (b := false) (.base (.int i)) (kit_ty (by decide +kernel)) ?_
      walk_at "ct"
      exact q H (Same.refl H)
    | str x =>
      refine w_isi (b := false) (.base (.str x)) (kit_ty (by decide +kernel)) ?_
      walk_at "ct"
      exact q H (Same.refl H)
    | lst hs ht =>
      refine w_isi (b := false) (tyx_L hs) (kit_ty (by decide +kernel)) ?_
      walk_at "ct"
      exact q H (Same.refl H)
    | tup hs ht =>
      refine w_isi (b := true) (tyx_T hs) (kit_ty (by decide +kernel)) ?_
      have lays := lay_ins (n := 60) (show PyData.canLayAll0 _ = true from lay) (by
        have : PyData.depthAll _ + 1 ≤ 60 := dep
        omega)
      walk_at "ct"
      refine ⟨_, _, rfl, .inr hs, ?_⟩
      cases ht with
      | nil =>
        walk_at "ct"
        refine w_ite (fun e => absurd e (by decide)) (fun _ => ?_)
        walk_at "ct"
        refine ⟨_, _, rfl, .inr hs, ?_⟩
        walk_at "ct"
        refine w_ite (fun e => absurd e (by decide)) (fun _ => ?_)
        exact q H (Same.refl H)
      | cons h1 t1 =>
        cases t1 with
        | nil =>
          walk_at "ct"
          refine w_ite (fun e => absurd e (by simp)) (fun _ => ?_)
          walk_at "ct"
          refine ⟨_, _, rfl, .inr hs, ?_⟩
          walk_at "ct"
          refine w_ite (fun e => absurd e (by simp)) (fun _ => ?_)
          exact q H (Same.refl H)
        | cons h2 t2 =>
          cases t2 with
          | nil =>
            walk_at "ct"
            refine w_ite (fun e => absurd e (by simp)) (fun _ => ?_)
            walk_at "ct"
            refine ⟨_, _, rfl, .inr hs, ?_⟩
            walk_at "ct"
            refine w_ite (fun e => absurd e (by simp)) (fun _ => ?_)
            exact q H (Same.refl H)
          | cons h3 t3 =>
            cases t3 with
            | nil =>
              rename_i v1 w v2 x v3 y
              have q : ∀ H', Same H H' → Q (.bl (PyData.eqv w (.str "none") && tnB ps x y)) H' := q
              walk_at "ct"
              refine w_ite (fun e => absurd e (by simp)) (fun _ => ?_)
              walk_at "ct"
              refine ⟨_, _, rfl, .inr hs, ?_⟩
              walk_at "ct"
              refine w_ite (fun _ => ?_) (fun e => absurd rfl e)
              walk_at "ct"
              refine ⟨w, .str "none", h1, .str _, shaped_of (lays w List.mem_cons_self) (by decide), by decide +kernel, ?_⟩
              cases e : PyData.eqv w (.str "none") with
              | false =>
                rw [e] at q
                walk_at "ct"
                exact q H (Same.refl H)
              | true =>
                rw [e] at q
                walk_at "ct"
                exact ⟨a, ws, ps, v2, v3, x, y, rfl, ha, hd, h2, h3, q⟩
            | cons h4 t4 =>
              cases t4 with
              | nil =>
                rename_i v1 w v2 x v3 y v4 z
                have q : ∀ H', Same H H' → Q (.bl (PyData.eqv w (.str "wheel") && twB ps x y z)) H' := q
                walk_at "ct"
                refine w_ite (fun _ => ?_) (fun e => absurd rfl e)
                walk_at "ct"
                refine ⟨w, .str "wheel", h1, .str _, shaped_of (lays w List.mem_cons_self) (by decide), by decide +kernel, ?_⟩
                cases e : PyData.eqv w (.str "wheel") with
                | false =>
                  rw [e] at q
                  walk_at "ct"
                  refine ⟨_, _, rfl, .inr hs, ?_⟩
                  walk_at "ct"
                  refine w_ite (fun e => absurd e (by simp)) (fun _ => ?_)
                  exact q H (Same.refl H)
                | true =>
                  rw [e] at q
                  walk_at "ct"
                  exact ⟨a, ws, ps, v2, v3, v4, x, y, z, rfl, ha, hd, h2, h3, h4, ml w x y z rfl, hTb, q⟩
              | cons h5 t5 =>
                walk_at "ct"
                refine w_ite (fun e => absurd e (by simp only [List.length_cons]; omega)) (fun _ => ?_)
                walk_at "ct"
                refine ⟨_, _, rfl, .inr hs, ?_⟩
                walk_at "ct"
                refine w_ite (fun e => absurd e (by simp only [List.length_cons]; omega)) (fun _ => ?_)
                exact q H (Same.refl H)
abbrev S_is_smallest_behind : Stmt := topS 40
theorem sc_is_smallest_behind : FnScope ["train", "stand", "shows", "thing"] ["train", "stand", "shows", "thing"] (defScope S_is_smallest_behind) := ⟨rfl, rfl, rfl, by decide +kernel, rfl, by decide +kernel, by decide +kernel⟩
def sp_is_smallest_behind (K : PySem.W.Frag) (T : List Addr) : Sp := fun vs H Q _ => ∃ (a t b : Addr) (ps : List Part) (xs : List Int) (ws : List V) (ss : List (Int × Int)) (v : V) (d : PyData), vs = [.ref a, .ref t, .ref b, v] ∧ TrainAt K H a ps ∧ (∀ p ∈ ps, p.ok) ∧ 1 ≤ ps.length ∧ ps.length ≤ 1000 ∧ SqT K H t (xs.map V.int) ∧ StandOk ps xs ∧ SqL K H b ws ∧ DpAll K H ws (ss.map sh2D) ∧ (∀ s ∈ ss, Sh2Ok s) ∧ ss.length ≤ 1000 ∧ Tb T H ∧
  Dp K H v d ∧ d.canLay0 = true ∧ d.depth ≤ 60 ∧ (∀ w x y z, d = .tuple [w, x, y, z] → (marksD y).length ≤ 4000) ∧ ∀ H', Same H H' → Q (.bl (rightB (passN (fedS ps xs (ss.map (·.1))).2 ss ss.length) d)) H'
theorem ok_is_smallest_behind {f : Addr} {fd : FuncData} {f_passes_behind : Addr} {fd_passes_behind : FuncData} {f_is_right : Addr} {fd_is_right : FuncData} {T : List Addr} (F : Fun K "is_smallest_behind" "is_smallest_behind" S_is_smallest_behind f fd)
    (F_passes_behind : Fun K "passes_behind" "passes_behind" S_passes_behind f_passes_behind fd_passes_behind) (b_passes_behind : Binds K fd_passes_behind ["train", "stand", "shows"] []) (g_passes_behind : mg "passes_behind" = some (.ref f_passes_behind)) (G_passes_behind : FnOk P w K mg base CX0 8 f_passes_behind fd_passes_behind ["train", "stand", "shows"] (sp_passes_behind K T))
    (F_is_right : Fun K "is_right" "is_right" S_is_right f_is_right fd_is_right) (b_is_right : Binds K fd_is_right ["passes", "thing"] []) (g_is_right : mg "is_right" = some (.ref f_is_right)) (G_is_right : FnOk P w K mg base CX0 6 f_is_right fd_is_right ["passes", "thing"] (sp_is_right K T)) :
    FnOk P w K mg base CX0 9 f fd ["train", "stand", "shows", "thing"] (sp_is_smallest_behind K T) := by
  refine F.ok sc_is_smallest_behind (fun vs H Q E h => ?_) (fun cdv A outer s H vs Q E hr h => ?_)
  ·
    obtain ⟨a, t, b, ps, xs, ws, ss, v, d, rfl, _⟩ := h
    rfl
  ·
    obtain ⟨a, t, b, ps, xs, ws, ss, v, d, rfl, hT, hok, p1, p2, hS, hso, hb, hd, oks, sl, hTb, hv, lay, dep, ml, q⟩ := h
    refine ⟨_, (pss_one (ps_ret (pe_call G_is_right (hr.mono (by decide)) (by rfl) g_is_right F_is_right.kp b_is_right .nil pass0 (pa_cons (pe_call G_passes_behind (hr.mono (by decide)) (by rfl) g_passes_behind F_passes_behind.kp b_passes_behind .nil pass0 (pa_cons (pv 0) (pa_cons (pv 1) (pa_cons (pv 2) pa_nil)))) (pa_cons (pv 3) pa_nil))))), ?_⟩
    refine w_st (σ' := [some (.ref a), some (.ref t), some (.ref b), some v]) rfl ?_
    walk_at "ct"
    refine ⟨a, t, b, ps, xs, ws, ss, rfl, hT, hok, p1, p2, hS, hso, hb, hd, oks, sl, hTb, fun l us H1 s1 nl hl hu => ?_⟩
    walk_at "ct"
    exact ⟨l, us, _, v, d, rfl, .of hl, hu, dp_same s1 hv, lay, dep, ml, hTb.same s1, fun H2 s2 => q H2 (s1.trans s2)⟩
abbrev S__law_draws : Stmt := topS 42
theorem sc__law_draws : FnScope ["_law_cell"] ["_law_cell"] (defScope S__law_draws) := ⟨rfl, rfl, rfl, by decide +kernel, rfl, by decide +kernel, by decide +kernel⟩
def sp__law_draws (K : PySem.W.Frag) : Sp := fun vs H Q _ => ∃ c : Int, vs = [.int c] ∧ ∀ D H', Same H H' → H D = none → H' D = some (DrO D 0) → Q (.ref D) H'
theorem ok__law_draws {f : Addr} {fd : FuncData} (F : Fun K "_law_draws" "_law_draws" S__law_draws f fd) :
    FnOk P w K mg base CX0 1 f fd ["_law_cell"] (sp__law_draws K) := by
  refine F.ok sc__law_draws (fun vs H Q E h => ?_) (fun cdv A outer s H vs Q E hr h => ?_)
  ·
    obtain ⟨c, rfl, _⟩ := h
    rfl
  ·
    obtain ⟨c, rfl, q⟩ := h
    refine ⟨_, (pss_cons (ps_if (pt_cmpR op_lt (pv 0) (pe_op op_powB pe_int pe_int) (nomark _)) (pss_one (ps_ret (pe_lstDr (pa_cons (pv 0) (pa_cons pe_int (pa_cons pe_bl pa_nil)))))) pss_nil)
      (pss_one (ps_ret (pe_lstDr (pa_cons (pe_op op_mod (pv 0) (pe_op op_powB (pe_op op_powB (pe_op op_powB pe_int pe_int) pe_int) pe_int)) (pa_cons pe_int (pa_cons pe_bl pa_nil))))))), ?_⟩
    refine w_st (σ' := [some (.int c)]) rfl ?_
    walk_at "ct"
    refine w_rIv (.int 1000000000000000000) ⟨by decide, by decide⟩ rfl ?_
    walk_at "ct"
    refine w_ite (fun e => ?_) (fun e => ?_)
    · walk_at "ct"
      refine w_lstDr ?_
      walk_at "ct"
      exact ⟨c, 0, false, rfl, fun p np => q p _ (same_upd np) np upd_same⟩
    · walk_at "ct"
      refine w_lstDr ?_
      walk_at "ct"
      refine w_rI ⟨by decide, by decide +kernel⟩ ?_
      walk_at "ct"
      refine w_rI ⟨by decide, by decide +kernel⟩ ?_
      walk_at "ct"
      refine w_rI ⟨by decide, by decide +kernel⟩ ?_
      refine w_mod (Int.pow_pos (Int.pow_pos (Int.pow_pos (by decide)))) fun r _ _ => ?_
      walk_at "ct"
      exact ⟨r, 0, true, rfl, fun p np => q p _ (same_upd np) np upd_same⟩
abbrev S__law_next : Stmt := topS 43
theorem sc__law_next : FnScope ["_law_draws_here", "_law_k", "_law_number"] ["_law_draws_here"] (defScope S__law_next) := ⟨rfl, rfl, rfl, by decide +kernel, rfl, by decide +kernel, by decide +kernel⟩
def sp__law_next (K : PySem.W.Frag) : Sp := fun vs H Q _ => ∃ (D : Addr) (c : Nat), vs = [.ref D] ∧ H D = some (DrO D c) ∧ c < 1000000 ∧ ∀ n : Int, 0 ≤ n → n < 2147483648 → Q (.int n) (upd H D (DrO D (c + 1)))
theorem ok__law_next {f : Addr} {fd : FuncData} (F : Fun K "_law_next" "_law_next" S__law_next f fd) :
    FnOk P w K mg base CX0 1 f fd ["_law_draws_here"] (sp__law_next K) := by
  refine F.ok sc__law_next (fun vs H Q E h => ?_) (fun cdv A outer s H vs Q E hr h => ?_)
  ·
    obtain ⟨D, c, rfl, _⟩ := h
    rfl
  ·
    obtain ⟨D, c, rfl, hD, hc, q⟩ := h
    refine ⟨_, (pss_cons (ps_asg (pe_op op_add (pe_ix (r := rIxDr) ix_dr (pv 0) pe_int (fun _ _ => rfl)) pe_int) (pg_sub (pv 0) pe_int set_dr))
      (pss_cons (ps_set (i := 1) sc__law_next.nd rfl (.inl rfl) (pe_ix (r := rIxDr) ix_dr (pv 0) pe_int (fun _ _ => rfl)))
      (pss_cons (ps_if (pt_val (pe_ix (r := rIxDr) ix_dr (pv 0) pe_int (fun _ _ => rfl))) (pss_cons (ps_set (i := 2) sc__law_next.nd rfl (.inl rfl) (pe_op op_mod (pe_ix (r := rIxDr) ix_dr (pv 0) pe_int (fun _ _ => rfl)) (pe_op op_powB pe_int pe_int)))
      (pss_cons (ps_asg (pe_op op_fdivW (pe_ix (r := rIxDr) ix_dr (pv 0) pe_int (fun _ _ => rfl)) (pe_op op_powB pe_int pe_int)) (pg_sub (pv 0) pe_int set_dr))
      (pss_one (ps_ret (pv 2))))) pss_nil)
      (pss_cons (ps_set (i := 2) sc__law_next.nd rfl (.inl rfl) (pe_op op_mod (pe_op op_mulW (pe_op op_add (pe_op op_add (pe_op op_mod (pe_ix (r := rIxDr) ix_dr (pv 0) pe_int (fun _ _ => rfl)) pe_int) (pe_op op_mulW (pe_op op_mulW (pv 1) (pv 1)) pe_int)) (pv 1)) pe_int) pe_int))
      (pss_cons (ps_set (i := 2) sc__law_next.nd rfl (.inl rfl) (pe_op op_mod (pe_op op_mulW (pv 2) (pv 2)) pe_int))
      (pss_one (ps_ret (pe_op op_fdivW (pe_op op_mod (pe_op op_mulW (pv 2) (pe_op op_add (pv 2) pe_int)) pe_int) pe_int)))))))), ?_⟩
    refine w_st (σ' := [some (.ref D), none, none]) rfl ?_
    walk_at "ct"
    refine w_dr1 hD ?_
    walk_at "ct"
    refine ⟨D, 1, c, rfl, rfl, hD, .inr ⟨rfl, c + 1, by rw [show ((c + 1 : Nat) : Int) = (c : Int) + 1 by omega], ?_⟩⟩
    have h1 : (upd H D (DrO D (c + 1))) D = some (DrO D (c + 1)) := upd_same
    have e2 : upd (upd H D (DrO D (c + 1))) D (DrO D (c + 1)) = upd H D (DrO D (c + 1)) := by
      funext a
      by_cases z : a = D
      · rw [z, upd_same, upd_same]
      · rw [upd_ne z]
    generalize upd H D (DrO D (c + 1)) = H1 at *
    walk_at "ct"
    refine w_dr1 h1 ?_
    walk_at "ct"
    refine w_dr2 h1 fun b => ?_
    obtain ⟨k, hk⟩ : ∃ k : Int, ((c + 1 : Nat) : Int) = k := ⟨_, rfl⟩
    have k0 : 0 ≤ k := by omega
    have k1 : k ≤ 1000000 := by omega
    rw [hk]
    cases b with
    | true =>
      walk_at "ct"
      refine w_dr0 h1 fun n => ?_
      walk_at "ct"
      refine w_rIv (.int 1000000) ⟨by decide, by decide⟩ rfl ?_
      refine w_mod (by decide) fun r r0 r1 => ?_
      walk_at "ct"
      refine w_dr0 h1 fun n2 => ?_
      walk_at "ct"
      refine w_rIv (.int 1000000) ⟨by decide, by decide⟩ rfl ?_
      refine w_div (div_ok (by decide) (by decide)) fun r' => ?_
      walk_at "ct"
      refine ⟨D, 0, c + 1, rfl, rfl, h1, .inl ⟨rfl, ⟨_, rfl⟩, ?_⟩⟩
      rw [e2]
      walk_at "ct"
      exact q r r0 (by omega)
    | false =>
      walk_at "ct"
      refine w_dr0 h1 fun n => ?_
      walk_at "ct"
      refine w_mod (by decide) fun r0 a0 a1 => ?_
      walk_at "ct"
      have kk : 0 ≤ k * k ∧ k * k ≤ 1000000 * 1000000 := ⟨Int.mul_nonneg k0 k0, Int.mul_le_mul k1 k1 k0 (by decide)⟩
      refine w_rI (mul_ok (by omega) (by omega) (by omega) (by omega)) ?_
      walk_at "ct"
      refine w_rI (mul_ok (by omega) (by omega) (by omega) (by omega)) ?_
      walk_at "ct"
      refine w_rI (mul_ok (by omega) (by omega) (by omega) (by omega)) ?_
      walk_at "ct"
      refine w_mod (by decide) fun r1 b0 b1 => ?_
      walk_at "ct"
      refine w_rI (mul_ok (by omega) (by omega) (by omega) (by omega)) ?_
      walk_at "ct"
      refine w_mod (by decide) fun r2 c0 c1 => ?_
      walk_at "ct"
      refine w_rI (mul_ok (by omega) (by omega) (by omega) (by omega)) ?_
      walk_at "ct"
      refine w_mod (by decide) fun r3 d0 d1 => ?_
      walk_at "ct"
      refine w_rI (div_ok (by decide) (by decide)) ?_
      exact q _ (by omega) (by omega)
abbrev S__law_whole : Stmt := topS 44
theorem sc__law_whole : FnScope ["_law_found"] ["_law_found"] (defScope S__law_whole) := ⟨rfl, rfl, rfl, by decide +kernel, rfl, by decide +kernel, by decide +kernel⟩
def sp__law_whole (K : PySem.W.Frag) : Sp := fun vs H Q _ => ∃ (v : V) (d : PyData), vs = [v] ∧ Dp K H v d ∧ Q (.bl (isW d)) H
theorem ok__law_whole {f : Addr} {fd : FuncData} (F : Fun K "_law_whole" "_law_whole" S__law_whole f fd) (m_isinstance : mg "isinstance" = none) (m_int : mg "int" = none) (m_bool : mg "bool" = none) :
    FnOk P w K mg base CX0 1 f fd ["_law_found"] (sp__law_whole K) := by
  refine F.ok sc__law_whole (fun vs H Q E h => ?_) (fun cdv A outer s H vs Q E hr h => ?_)
  ·
    obtain ⟨v, d, rfl, _⟩ := h
    rfl
  ·
    obtain ⟨v, d, rfl, hd, q⟩ := h
    refine ⟨_, (pss_one (ps_ret (pe_and (pe_callB (r := rIsi K) call_isi (by rfl) m_isinstance (by decide +kernel) (pa_cons (pv 0) (pa_cons (pe_bltn (v := .ty "int") (u := .type "int") (by rfl) m_int (by decide +kernel) rfl) pa_nil))) (pe_one (pe_not (pe_callB (r := rIsi K) call_isi (by rfl) m_isinstance (by decide +kernel) (pa_cons (pv 0) (pa_cons (pe_bltn (v := .ty "bool") (u := .type "bool") (by rfl) m_bool (by decide +kernel) rfl) pa_nil)))))))), ?_⟩
    refine w_st (σ' := [some v]) rfl ?_
    walk_at "ct"
    cases hd with
    | non =>
      refine w_isi (b := false) (.base .non) (kit_ty (by decide +kernel)) ?_
      walk_at "ct"
      exact q
    | bl b =>
      refine w_isi (b := true) (.base (.bl b)) (kit_ty (by decide +kernel)) ?_
      walk_at "ct"
      refine w_isi (b := true) (.base (.bl b)) (kit_ty (by decide +kernel)) ?_
      walk_at "ct"
      exact q
    | int i =>
      refine w_isi (b := true) (.base (.int i)) (kit_ty (by decide +kernel)) ?_
      walk_at "ct"
      refine w_isi (b := false) (.base (.int i)) (kit_ty (by decide +kernel)) ?_
      walk_at "ct"
      exact q
    | str x =>
      refine w_isi (b := false) (.base (.str x)) (kit_ty (by decide +kernel)) ?_
      walk_at "ct"
      exact q
    | lst hs ht =>
      refine w_isi (b := false) (tyx_L hs) (kit_ty (by decide +kernel)) ?_
      walk_at "ct"
      exact q
    | tup hs ht =>
      refine w_isi (b := false) (tyx_T hs) (kit_ty (by decide +kernel)) ?_
      walk_at "ct"
      exact q
abbrev S__law_runs : Stmt := topS 45
theorem sc__law_runs : FnScope ["_law_draws_here", "_law_many", "_law_ways", "_law_way"] ["_law_draws_here", "_law_many"] (defScope S__law_runs) := ⟨rfl, rfl, rfl, by decide +kernel, rfl, by decide +kernel, by decide +kernel⟩
def sp__law_runs (K : PySem.W.Frag) : Sp := fun vs H Q _ => ∃ (D : Addr) (c many : Nat), vs = [.ref D, .int many] ∧ H D = some (DrO D c) ∧ many ≤ 1000 ∧ c ≤ 900000 ∧
  ∀ l (ws : List Int) c' H', Dr D c' H H' → c' ≤ c + 3 * many → H l = none → H' l = some (.lst (ws.map V.int)) → (∀ w ∈ ws, Sign w) → ws.length ≤ many → Q (.ref l) H'
theorem ok__law_runs {f : Addr} {fd : FuncData} {f__law_next : Addr} {fd__law_next : FuncData} (F : Fun K "_law_runs" "_law_runs" S__law_runs f fd)
    (F__law_next : Fun K "_law_next" "_law_next" S__law_next f__law_next fd__law_next) (b__law_next : Binds K fd__law_next ["_law_draws_here"] []) (g__law_next : mg "_law_next" = some (.ref f__law_next)) (G__law_next : FnOk P w K mg base CX0 1 f__law_next fd__law_next ["_law_draws_here"] (sp__law_next K)) (m_len : mg "len" = none) :
    FnOk P w K mg base CX0 2 f fd ["_law_draws_here", "_law_many"] (sp__law_runs K) := by
  refine F.ok sc__law_runs (fun vs H Q E h => ?_) (fun cdv A outer s H vs Q E hr h => ?_)
  ·
    obtain ⟨D, c, many, rfl, _⟩ := h
    rfl
  ·
    obtain ⟨D, c, many, rfl, hD, hm, hc, q⟩ := h
    refine ⟨_, (pss_cons (ps_set (i := 2) sc__law_runs.nd rfl (.inl rfl) (pe_lst pa_nil))
      (pss_cons (ps_while PassesOwn.never (pt_cmpR op_lt (pe_callB call_len_seq (by rfl) m_len (by decide +kernel) (pa_cons (pv 2) pa_nil)) (pv 1) (nomark _)) (pss_cons (ps_set (i := 3) sc__law_runs.nd rfl (.inl rfl) (pe_ix (r := rIxL K) ix_list (pe_lst (pa_cons pe_int (pa_cons (pe_op op_sub pe_int pe_int) pa_nil))) (pe_op op_mod (pe_call G__law_next (hr.mono (by decide)) (by rfl) g__law_next F__law_next.kp b__law_next .nil pass0 (pa_cons (pv 0) pa_nil)) pe_int) (fun _ _ => rfl)))
      (pss_one (ps_set (i := 2) sc__law_runs.nd rfl (.inl rfl) (pe_op op_cat (pv 2) (pe_op op_rep (pe_lst (pa_cons (pv 3) pa_nil)) (pe_op op_add pe_int (pe_op op_mod (pe_call G__law_next (hr.mono (by decide)) (by rfl) g__law_next F__law_next.kp b__law_next .nil pass0 (pa_cons (pv 0) pa_nil)) (pe_ix (r := rIxL K) ix_list (pe_lst (pa_cons pe_int (pa_cons pe_int (pa_cons pe_int pa_nil)))) (pe_op op_mod (pe_call G__law_next (hr.mono (by decide)) (by rfl) g__law_next F__law_next.kp b__law_next .nil pass0 (pa_cons (pv 0) pa_nil)) pe_int) (fun _ _ => rfl))))))))))
      (pss_one (ps_ret (pe_slice (r := rSlL K) sl_list (pv 2) po_none (po_some (pv 1))))))), ?_⟩
    refine w_st (σ' := [some (.ref D), some (.int many), none, none]) rfl ?_
    walk_at "ct"
    refine ⟨len2 rfl, fun l0 nl0 => ?_⟩
    have d0 : Dr D c H (upd H l0 (.lst [])) := (Dr.refl hD).same (same_upd nl0)
    have h0 : (upd H l0 (.lst [])) l0 = some (.lst (([] : List Int).map V.int)) := upd_same
    generalize upd H l0 _ = H0 at *
    walk_at "ct"
    refine while_by (fun σ G => ∃ (l : Addr) (ws : List Int) (c' : Nat) (y : Option V), σ = [some (.ref D), some (.int many), some (.ref l), y] ∧ Dr D c' H G ∧ H l = none ∧ G l = some (.lst (ws.map V.int)) ∧ (∀ w ∈ ws, Sign w) ∧ ws.length ≤ many + 15 ∧ c' ≤ c + 3 * ws.length ∧ c' ≤ c + 3 * many)
      (fun σ G => match σ with | [_, _, some (.ref l), _] => (match G l with | some (.lst vs) => many - vs.length | _ => 0) | _ => 0)
      ⟨l0, [], c, none, rfl, d0, nl0, h0, (fun _ h => nomatch h), Nat.zero_le _, Nat.le_refl _, Nat.le_add_right _ _⟩ ?_ ?_
    · rintro σ G ⟨l, ws, c', y, rfl, dr, nl, hl, sg, wl, cl, cm⟩
      walk_at "ct"
      refine ⟨l, _, rfl, .inl (.of hl), ?_⟩
      rw [List.length_map]
      walk_at "ct"
      refine w_ite (fun e => ?_) (fun e => ?_)
      · walk_at "ct"
        refine ⟨len2 rfl, fun g ng => ?_⟩
        have u1 : Same G (upd G g (.lst [.int 1, .int (0 - 1)])) := same_upd ng
        have hg : (upd G g (.lst [.int 1, .int (0 - 1)])) g = some (.lst [.int 1, .int (0 - 1)]) := upd_same
        generalize upd G g _ = G1 at *
        have dr1 := dr.same u1
        walk_at "ct"
        refine ⟨D, c', rfl, dr1.2, by omega, fun n1 _ _ => ?_⟩
        have dr2 := dr1.next (c' + 1)
        have hg2 := (Dr.refl dr1.2 |>.next (c' + 1)).at dr1.2 hg
        have hl2 := (Dr.refl dr1.2 |>.next (c' + 1)).at dr1.2 (u1 _ _ hl)
        generalize upd G1 D _ = G2 at *
        walk_at "ct"
        refine w_mod (by decide) fun r r0 r1 => ?_
        obtain ⟨w, hw, sw⟩ : ∃ w : Int, atI [V.int 1, .int (0 - 1)] r = some (.int w) ∧ Sign w := by
          have : r = 0 ∨ r = 1 := by omega
          rcases this with rfl | rfl
          · exact ⟨1, at0, .inl rfl⟩
          · exact ⟨-1, at1, .inr rfl⟩
        refine w_ixL (.of hg2) hw ?_
        walk_at "ct"
        refine ⟨len2 rfl, fun g2 ng2 => ?_⟩
        have u2 : Same G2 (upd G2 g2 (.lst [.int w])) := same_upd ng2
        have hh2 : (upd G2 g2 (.lst [.int w])) g2 = some (.lst [.int w]) := upd_same
        generalize upd G2 g2 _ = G3 at *
        have dr3 := dr2.same u2
        have hl3 := u2 _ _ hl2
        walk_at "ct"
        refine ⟨D, c' + 1, rfl, dr3.2, by omega, fun n2 _ _ => ?_⟩
        have dr4 := dr3.next (c' + 1 + 1)
        have hh4 := (Dr.refl dr3.2 |>.next (c' + 1 + 1)).at dr3.2 hh2
        have hl4 := (Dr.refl dr3.2 |>.next (c' + 1 + 1)).at dr3.2 hl3
        generalize upd G3 D _ = G4 at *
        walk_at "ct"
        refine ⟨len2 rfl, fun g5 ng5 => ?_⟩
        have u5 : Same G4 (upd G4 g5 (.lst [.int 1, .int 4, .int 15])) := same_upd ng5
        have hh5 : (upd G4 g5 (.lst [.int 1, .int 4, .int 15])) g5 = some (.lst [.int 1, .int 4, .int 15]) := upd_same
        generalize upd G4 g5 _ = G5 at *
        have dr5 := dr4.same u5
        walk_at "ct"
        refine ⟨D, c' + 1 + 1, rfl, dr5.2, by omega, fun n3 _ _ => ?_⟩
        have dr6 := dr5.next (c' + 1 + 1 + 1)
        have st : Dr D (c' + 1 + 1 + 1) G5 (upd G5 D (DrO D (c' + 1 + 1 + 1))) := (Dr.refl dr5.2).next _
        have hh6 := st.at dr5.2 hh5
        have hw6 := st.at dr5.2 (u5 _ _ hh4)
        have hl6 := st.at dr5.2 (u5 _ _ hl4)
        clear st
        generalize upd G5 D _ = G6 at *
        walk_at "ct"
        refine w_mod (by decide) fun r3 r30 r31 => ?_
        obtain ⟨top, htop, t0, t1⟩ : ∃ top : Int, atI [V.int 1, .int 4, .int 15] r3 = some (.int top) ∧ 1 ≤ top ∧ top ≤ 15 := by
          have : r3 = 0 ∨ r3 = 1 ∨ r3 = 2 := by omega
          rcases this with rfl | rfl | rfl
          · exact ⟨1, at0, by decide, by decide⟩
          · exact ⟨4, at1, by decide, by decide⟩
          · exact ⟨15, at2, by decide, by decide⟩
        refine w_ixL (.of hh6) htop ?_
        refine w_mod (by omega) fun r4 r40 r41 => ?_
        walk_at "ct"
        obtain ⟨k, hk, k1, k2⟩ : ∃ k : Nat, 1 + r4 = (k : Int) ∧ 1 ≤ k ∧ k ≤ 15 := ⟨(1 + r4).toNat, by omega, by omega, by omega⟩
        rw [hk]
        have ef : (List.replicate ((k : Int).toNat) [V.int w]).flatten = (List.replicate k w).map V.int := by
          rw [Int.toNat_natCast, rep_flat, List.map_replicate]
        refine ⟨g2, _, _, rfl, rfl, hw6, by omega, by omega, ?_, fun g7 ng7 => ?_⟩
        · show 1 * (k : Int).toNat ≤ sizeLine
          rw [Int.toNat_natCast, Nat.one_mul]
          exact Nat.le_trans k2 (by decide)
        rw [ef]
        have u7 : Same G6 (upd G6 g7 (.lst ((List.replicate k w).map V.int))) := same_upd ng7
        have hh7 : (upd G6 g7 (.lst ((List.replicate k w).map V.int))) g7 = some (.lst ((List.replicate k w).map V.int)) := upd_same
        generalize upd G6 g7 (HO.lst ((List.replicate k w).map V.int)) = G7 at *
        have dr7 := dr6.same u7
        refine ⟨l, g7, _, _, rfl, rfl, u7 _ _ hl6, hh7, ?_, fun g8 ng8 => ?_⟩
        · rw [List.length_map, List.length_map, List.length_replicate]
          exact Nat.le_trans (show ws.length + k ≤ 2000 by omega) (by decide)
        have u8 : Same G7 (upd G7 g8 (.lst (ws.map V.int ++ (List.replicate k w).map V.int))) := same_upd ng8
        walk_at "ct"
        refine ⟨⟨g8, ws ++ List.replicate k w, c' + 1 + 1 + 1, _, rfl, dr7.same u8, dr7.free ng8, by rw [upd_same, List.map_append], fun x hx => ?_, ?_, ?_, ?_⟩, ?_⟩
        · rcases List.mem_append.mp hx with hx | hx
          · exact sg x hx
          · rw [(List.mem_replicate.mp hx).2]
            exact sw
        · rw [List.length_append, List.length_replicate]; omega
        · rw [List.length_append, List.length_replicate]; omega
        · omega
        · show (match (upd G7 g8 (.lst (ws.map V.int ++ (List.replicate k w).map V.int))) g8 with | some (.lst vs) => many - vs.length | _ => 0) < (match G l with | some (.lst vs) => many - vs.length | _ => 0)
          rw [upd_same, hl]
          show many - (ws.map V.int ++ (List.replicate k w).map V.int).length < many - (ws.map V.int).length
          rw [List.length_append, List.length_map, List.length_map, List.length_replicate]
          omega
      · walk_at "ct"
        refine w_slL (.of hl) fun g ng => ?_
        have e1 : cutV (ws.map V.int) none (some (many : Int)) = (ws.take many).map V.int := by
          rw [cut_toB, List.map_take]
        rw [e1]
        refine q g (ws.take many) c' _ (dr.same (same_upd ng)) cm (dr.free ng) upd_same (fun x hx => sg x (List.mem_of_mem_take hx)) ?_
        rw [List.length_take]
        omega
    · rintro σ H' Q1 Q2 hQ ⟨v, e, p, ys, z, hs, v2, e2, i, j, z1, z2, k, e3, hq⟩
      exact ⟨v, e, p, ys, z, hs, v2, e2, i, j, z1, z2, k, e3, hQ _ _ hq⟩
abbrev S__law_train : Stmt := topS 46
theorem sc__law_train : FnScope ["_law_draws_here", "_law_train_here", "_law_k", "_law_way", "_law_teeth", "_law_marks_here", "_law_place"] ["_law_draws_here"] (defScope S__law_train) := ⟨rfl, rfl, rfl, by decide +kernel, rfl, by decide +kernel, by decide +kernel⟩
def sp__law_train (K : PySem.W.Frag) : Sp := fun vs H Q _ => ∃ (D : Addr) (c : Nat), vs = [.ref D] ∧ H D = some (DrO D c) ∧ c ≤ 900000 ∧ ∀ a ws (ps : List Part) c' H', Dr D c' H H' → c' ≤ c + 100 → H a = none → H' a = some (.lst ws) → DpAll K H' ws (ps.map Part.data) → (∀ p ∈ ps, p.ok ∧ Bn p.data 2 16) → 1 ≤ ps.length → ps.length ≤ 4 → Q (.ref a) H'
theorem ok__law_train {f : Addr} {fd : FuncData} {f__law_next : Addr} {fd__law_next : FuncData} (F : Fun K "_law_train" "_law_train" S__law_train f fd)
    (F__law_next : Fun K "_law_next" "_law_next" S__law_next f__law_next fd__law_next) (b__law_next : Binds K fd__law_next ["_law_draws_here"] []) (g__law_next : mg "_law_next" = some (.ref f__law_next)) (G__law_next : FnOk P w K mg base CX0 1 f__law_next fd__law_next ["_law_draws_here"] (sp__law_next K)) (m_range : mg "range" = none) (m_tuple : mg "tuple" = none) (m_max : mg "max" = none) :
    FnOk P w K mg base CX0 2 f fd ["_law_draws_here"] (sp__law_train K) := by
  refine F.ok sc__law_train (fun vs H Q E h => ?_) (fun cdv A outer s H vs Q E hr h => ?_)
  ·
    obtain ⟨D, c, rfl, _⟩ := h
    rfl
  ·
    obtain ⟨D, c, rfl, hD, hc, q⟩ := h
    refine ⟨_, (pss_cons (ps_set (i := 1) sc__law_train.nd rfl (.inl rfl) (pe_lst pa_nil))
      (pss_cons (ps_for PassesOwn.never rfl (pi_range1 (by rfl) m_range (pa_cons (pe_op op_add pe_int (pe_op op_mod (pe_call G__law_next (hr.mono (by decide)) (by rfl) g__law_next F__law_next.kp b__law_next .nil pass0 (pa_cons (pv 0) pa_nil)) pe_int)) pa_nil)) (pg_name (i := 2) sc__law_train.nd rfl (.inl rfl))
      (pss_cons (ps_set (i := 3) sc__law_train.nd rfl (.inl rfl) (pe_op op_mod (pe_call G__law_next (hr.mono (by decide)) (by rfl) g__law_next F__law_next.kp b__law_next .nil pass0 (pa_cons (pv 0) pa_nil)) pe_int))
      (pss_cons (ps_set (i := 4) sc__law_train.nd rfl (.inl rfl) (pe_op op_add pe_int (pe_op op_mod (pe_call G__law_next (hr.mono (by decide)) (by rfl) g__law_next F__law_next.kp b__law_next .nil pass0 (pa_cons (pv 0) pa_nil)) (pe_ix (r := rIxL K) ix_list (pe_lst (pa_cons pe_int (pa_cons pe_int (pa_cons pe_int (pa_cons pe_int pa_nil))))) (pv 2) (fun _ _ => rfl)))))
      (pss_cons (ps_set (i := 5) sc__law_train.nd rfl (.inl rfl) (pe_callTy call_tuple_of (by rfl) m_tuple (by decide +kernel) (pa_cons (pe_lc (own := [("_law_place", 6)]) (g := gName 6)  rfl sc__law_train.nd  (pi_range1 (by rfl) m_range (pa_cons (pv 4) pa_nil)) (blkOk_by (own := [("_law_place", 6)]) (N := ["_law_draws_here", "_law_train_here", "_law_k", "_law_way", "_law_teeth", "_law_marks_here", "_law_place"]) (sc := defScope S__law_train) (by decide +kernel)) (fun _ _ _ _ _ => pg_name (i := 6) sc__law_train.nd rfl (Or.inl rfl)) (fun _ _ _ _ _ => (pts_one (pt_cmpR op_gt (pe_op op_mod (pe_call G__law_next (hr.mono (by decide)) (by rfl) g__law_next F__law_next.kp b__law_next .nil pass0 (pa_cons (pv 0) pa_nil)) pe_int) pe_int (nomark _)))) (fun _ _ _ _ _ => (pv 6))) pa_nil)))
      (pss_one (ps_expr (pe_bm PySem.F.plainAttrs_list PySem.F.slot_list_append PySem.F.type_list_append mt_append (pv 1) (pa_cons (pe_ix (r := rIxL K) ix_list (pe_lst (pa_cons (pe_tup (pa_cons pe_str (pa_cons (pv 4) (pa_cons (pv 5) pa_nil)))) (pa_cons (pe_tup (pa_cons pe_str pa_nil)) (pa_cons (pe_tup (pa_cons pe_str pa_nil)) (pa_cons (pe_tup (pa_cons pe_str (pa_cons (pv 4) pa_nil))) pa_nil))))) (pe_callB (call_max2 rfl) (by rfl) m_max (by decide +kernel) (pa_cons pe_int (pa_cons (pe_op op_sub (pv 3) pe_int) pa_nil))) (fun _ _ => rfl)) pa_nil))))))))
      (pss_one (ps_ret (pv 1))))), ?_⟩
    refine w_st (σ' := [some (.ref D), none, none, none, none, none, none]) rfl ?_
    walk_at "ct"
    refine ⟨len2 rfl, fun l nl => ?_⟩
    have s1 : Same H (upd H l (.lst [])) := same_upd nl
    have h1 : (upd H l (.lst [])) l = some (.lst []) := upd_same
    generalize upd H l _ = H1 at *
    have d1 := (Dr.refl hD).same s1
    walk_at "ct"
    refine ⟨D, c, rfl, d1.2, by omega, fun n1 _ _ => ?_⟩
    have h2 := (Dr.step d1.2 (c + 1)).at d1.2 h1
    have d2 := d1.trans (Dr.step d1.2 (c + 1))
    generalize upd H1 D _ = H2 at *
    walk_at "ct"
    refine w_mod (by decide) fun r0 r00 r01 => ?_
    walk_at "ct"
    obtain ⟨N, hN, N1, N4⟩ : ∃ N : Nat, 1 + r0 = (N : Int) ∧ 1 ≤ N ∧ N ≤ 4 := ⟨(1 + r0).toNat, by omega, by omega, by omega⟩
    rw [hN]
    refine w_RG1 (by omega) (by omega) ?_
    rw [show ((N : Int)).toNat = N by omega]
    refine fb_range (fun i σ G => ∃ (y2 y3 y4 y5 : Option V) (ws : List V) (ps : List Part) (c' : Nat), σ = [some (.ref D), some (.ref l), y2, y3, y4, y5, none] ∧ Dr D c' H G ∧ c' ≤ c + 1 + 9 * i ∧ G l = some (.lst ws) ∧ DpAll K G ws (ps.map Part.data) ∧ (∀ p ∈ ps, p.ok ∧ Bn p.data 2 16) ∧ ps.length = i) ⟨none, none, none, none, [], [], c + 1, rfl, d2, by omega, h2, .nil, (fun _ z => nomatch z), rfl⟩ ?_ ?_
    · rintro i σ G hi ⟨y2, y3, y4, y5, ws, ps, c', rfl, dr, cb, hl, hd, hok, pl⟩
      have wl : ws.length = i := by rw [dpAll_len hd, List.length_map, pl]
      rw [Int.zero_add]
      walk_at "ct"
      refine ⟨D, c', rfl, dr.2, by omega, fun n2 _ _ => ?_⟩
      have e2 := Dr.step dr.2 (c' + 1)
      generalize upd G D _ = G2 at *
      walk_at "ct"
      refine w_mod (by decide) fun way w0 w1 => ?_
      walk_at "ct"
      refine ⟨D, c' + 1, rfl, e2.2, by omega, fun n3 _ _ => ?_⟩
      have e3 := e2.trans (Dr.step e2.2 (c' + 2))
      generalize upd G2 D _ = G3 at *
      walk_at "ct"
      refine ⟨len2 rfl, fun g4 ng4 => ?_⟩
      have u4 : Same G3 (upd G3 g4 (.lst [.int 7, .int 4, .int 4, .int 4])) := same_upd ng4
      have hg4 : (upd G3 g4 (.lst [.int 7, .int 4, .int 4, .int 4])) g4 = some (.lst [.int 7, .int 4, .int 4, .int 4]) := upd_same
      generalize upd G3 g4 _ = G4 at *
      have e4 := e3.same u4
      walk_at "ct"
      obtain ⟨tp, htp, tp1, tp2⟩ : ∃ tp : Int, atI [V.int 7, .int 4, .int 4, .int 4] (i : Int) = some (.int tp) ∧ 1 ≤ tp ∧ tp ≤ 7 := by
        have : i = 0 ∨ i = 1 ∨ i = 2 ∨ i = 3 := by omega
        rcases this with rfl | rfl | rfl | rfl
        · exact ⟨7, rfl, by decide, by decide⟩
        · exact ⟨4, rfl, by decide, by decide⟩
        · exact ⟨4, rfl, by decide, by decide⟩
        · exact ⟨4, rfl, by decide, by decide⟩
      refine w_ixL (.of hg4) htp ?_
      refine w_mod (by omega) fun tt tt0 tt1 => ?_
      walk_at "ct"
      obtain ⟨te, hte, te1, te2⟩ : ∃ te : Nat, 1 + tt = (te : Int) ∧ 1 ≤ te ∧ te ≤ 7 := ⟨(1 + tt).toNat, by omega, by omega, by omega⟩
      rw [hte]
      refine w_RG1 (by omega) (by omega) ?_
      rw [show ((te : Int)).toNat = te by omega]
      refine lb_range (fun D2 k G5 => Dr D (c' + 2 + k) G4 G5 ∧ ∃ ms : List Int, G5 D2 = some (.lst (ms.map V.int)) ∧ ms.length ≤ k ∧ Rise (k : Int) ms) (fun D2 hD2 => ⟨(Dr.refl e4.2).same (same_upd hD2), [], upd_same, Nat.le_refl _, List.Pairwise.nil, fun m hm => by cases hm⟩) ?_ ?_
      · rintro D2 hD2 k G5 hk ⟨d5, ms, hms, ml, rs⟩
        rw [Int.zero_add]
        walk_at "ct"
        refine ⟨rfl, ?_⟩
        walk_at "ct"
        refine ⟨D, c' + 2 + k, rfl, d5.2, by omega, fun n5 _ _ => ?_⟩
        have hm6 := (Dr.step d5.2 (c' + 2 + k + 1)).at d5.2 hms
        have d6 := d5.trans (Dr.step d5.2 (c' + 2 + k + 1))
        generalize upd G5 D _ = G6 at *
        walk_at "ct"
        refine w_mod (by decide) fun r5 _ _ => ?_
        walk_at "ct"
        refine w_ite (fun _ => ?_) (fun _ => ?_)
        · walk_at "ct"
          refine ⟨ms.map V.int, hm6, by rw [List.length_map]; exact small1000 (by omega), d6.put hD2 hm6, ms ++ [(k : Int)], by rw [upd_same, List.map_append]; rfl, by rw [List.length_append]; show ms.length + 1 ≤ k + 1; omega, List.pairwise_append.mpr ⟨rs.1, List.pairwise_singleton _ _, fun x hx y hy => ?_⟩, fun m hm => ?_⟩
          · rw [List.mem_singleton.mp hy]
            exact (rs.2 x hx).2
          · rcases List.mem_append.mp hm with hm | hm
            · have := rs.2 m hm
              omega
            · rw [List.mem_singleton.mp hm]
              omega
        · exact ⟨d6, ms, hm6, by omega, rs.1, fun m hm => by have := rs.2 m hm; omega⟩
      rintro D2 hD2 G5 ⟨d5, ms, hms, ml, rs⟩
      walk_at "ct"
      refine ⟨D2, _, rfl, .inl ⟨.of hms, fun mt nmt => ?_⟩⟩
      have u6 : Same G5 (upd G5 mt (.tup (ms.map V.int))) := same_upd nmt
      have hmt : (upd G5 mt (.tup (ms.map V.int))) mt = some (.tup (ms.map V.int)) := upd_same
      generalize upd G5 mt _ = G6 at *
      have d6 := (e4.trans d5).same u6
      have hl6 : G6 l = some (.lst ws) := d6.at dr.2 hl
      walk_at "ct"
      refine ⟨ty_list hl6, ?_⟩
      walk_at "ct"
      refine ⟨len2 rfl, fun a1 na1 => ?_⟩
      have v1 : Same G6 (upd G6 a1 (.tup [.str "wheel", .int (te : Int), .ref mt])) := same_upd na1
      have ha1 : (upd G6 a1 (.tup [.str "wheel", .int (te : Int), .ref mt])) a1 = some (.tup [.str "wheel", .int (te : Int), .ref mt]) := upd_same
      generalize upd G6 a1 _ = G7 at *
      walk_at "ct"
      refine ⟨len2 rfl, fun a2 na2 => ?_⟩
      have v2 : Same G7 (upd G7 a2 (.tup [.str "click"])) := same_upd na2
      have ha2 : (upd G7 a2 (.tup [.str "click"])) a2 = some (.tup [.str "click"]) := upd_same
      generalize upd G7 a2 _ = G8 at *
      walk_at "ct"
      refine ⟨len2 rfl, fun a3 na3 => ?_⟩
      have v3 : Same G8 (upd G8 a3 (.tup [.str "rocker"])) := same_upd na3
      have ha3 : (upd G8 a3 (.tup [.str "rocker"])) a3 = some (.tup [.str "rocker"]) := upd_same
      generalize upd G8 a3 _ = G9 at *
      walk_at "ct"
      refine ⟨len2 rfl, fun a4 na4 => ?_⟩
      have v4 : Same G9 (upd G9 a4 (.tup [.str "spring", .int (te : Int)])) := same_upd na4
      have ha4 : (upd G9 a4 (.tup [.str "spring", .int (te : Int)])) a4 = some (.tup [.str "spring", .int (te : Int)]) := upd_same
      generalize upd G9 a4 _ = G10 at *
      walk_at "ct"
      refine ⟨len2 rfl, fun a5 na5 => ?_⟩
      have v5 : Same G10 (upd G10 a5 (.lst [.ref a1, .ref a2, .ref a3, .ref a4])) := same_upd na5
      have ha5 : (upd G10 a5 (.lst [.ref a1, .ref a2, .ref a3, .ref a4])) a5 = some (.lst [.ref a1, .ref a2, .ref a3, .ref a4]) := upd_same
      generalize upd G10 a5 _ = G11 at *
      walk_at "ct"
      refine ⟨0, way - 3, rfl, ?_⟩
      have v15 := ((v1.trans v2).trans (v3.trans v4)).trans v5
      have okw : (Part.wheel (te : Int) ms).ok := ⟨by omega, by omega, rs, by omega⟩
      have oks : (Part.spring (te : Int)).ok := ⟨by omega, by omega⟩
      obtain ⟨pt, v, hat, hdp, hpk⟩ : ∃ (pt : Part) (v : V), atI [V.ref a1, .ref a2, .ref a3, .ref a4] (if way - 3 > 0 then way - 3 else 0) = some v ∧ Dp K G11 v pt.data ∧ pt.ok ∧ Bn pt.data 2 16 := by
        have : (if way - 3 > 0 then way - 3 else 0) = 0 ∨ (if way - 3 > 0 then way - 3 else 0) = 1 ∨ (if way - 3 > 0 then way - 3 else 0) = 2 ∨ (if way - 3 > 0 then way - 3 else 0) = 3 := by split <;> omega
        rcases this with e | e | e | e <;> rw [e]
        · exact ⟨.wheel (te : Int) ms, _, rfl, wheel_dp (.of ((((v2.trans v3).trans v4).trans v5) _ _ ha1)) (.of (v15 _ _ hmt)), okw, bn_pw (by omega) (fun m hm => by have := rs.2 m hm; omega) (by omega)⟩
        · exact ⟨.click, _, rfl, click_dp (.of (((v3.trans v4).trans v5) _ _ ha2)), trivial, bn_by (by decide +kernel)⟩
        · exact ⟨.rocker, _, rfl, rocker_dp (.of ((v4.trans v5) _ _ ha3)), trivial, bn_by (by decide +kernel)⟩
        · exact ⟨.spring (te : Int), _, rfl, spring_dp (.of (v5 _ _ ha4)), oks, bn_ps (by omega)⟩
      walk_at "ct"
      refine w_ixL (.of ha5) hat ?_
      walk_at "ct"
      have hl11 := v15 _ _ hl6
      refine w_append hl11 (small1000 (by omega)) ?_
      walk_at "ct"
      have d11 := d6.same v15
      refine ⟨_, _, _, _, ws ++ [v], ps ++ [pt], _, rfl, (dr.trans d11).put nl hl11, by omega, upd_same, ?_, fun p hp => ?_, by rw [List.length_append, pl]; rfl⟩
      · rw [List.map_append]
        exact dpAll_app (parts_upd hl11 _ (dpAll_same v15 (d6.all dr.2 hd))) (parts_upd hl11 [pt] (.cons hdp .nil))
      · rcases List.mem_append.mp hp with hp | hp
        · exact hok p hp
        · rw [List.mem_singleton.mp hp]
          exact hpk
    · rintro σ G ⟨y2, y3, y4, y5, ws, ps, c', rfl, dr, cb, hl, hd, hok, pl⟩
      walk_at "ct"
      exact q l ws ps c' G dr (by omega) nl hl hd hok (by omega) (by omega)
abbrev S__law_stand : Stmt := topS 47
theorem sc__law_stand : FnScope ["_law_draws_here", "_law_train_here", "_law_found", "_law_part", "_law_many"] ["_law_draws_here", "_law_train_here"] (defScope S__law_stand) := ⟨rfl, rfl, rfl, by decide +kernel, rfl, by decide +kernel, by decide +kernel⟩
def sp__law_stand (K : PySem.W.Frag) : Sp := fun vs H Q _ => ∃ (D a : Addr) (c : Nat) (ws : List V) (ps : List Part), vs = [.ref D, .ref a] ∧ H D = some (DrO D c) ∧ c ≤ 900000 ∧ H a = some (.lst ws) ∧ DpAll K H ws (ps.map Part.data) ∧ (∀ p ∈ ps, p.ok) ∧ ps.length ≤ 1000 ∧
  ∀ (xs : List Int) t H', Dr D (c + ps.length) H H' → SqT K H' t (xs.map V.int) → StandOk ps xs → Q (.ref t) H'
theorem ok__law_stand {f : Addr} {fd : FuncData} {f__law_next : Addr} {fd__law_next : FuncData} (F : Fun K "_law_stand" "_law_stand" S__law_stand f fd)
    (F__law_next : Fun K "_law_next" "_law_next" S__law_next f__law_next fd__law_next) (b__law_next : Binds K fd__law_next ["_law_draws_here"] []) (g__law_next : mg "_law_next" = some (.ref f__law_next)) (G__law_next : FnOk P w K mg base CX0 1 f__law_next fd__law_next ["_law_draws_here"] (sp__law_next K)) (m_int : mg "int" = none) :
    FnOk P w K mg base CX0 2 f fd ["_law_draws_here", "_law_train_here"] (sp__law_stand K) := by
  refine F.ok sc__law_stand (fun vs H Q E h => ?_) (fun cdv A outer s H vs Q E hr h => ?_)
  ·
    obtain ⟨D, a, c, ws, ps, rfl, _⟩ := h
    rfl
  ·
    obtain ⟨D, a, c, ws, ps, rfl, hD, hc, ha, hd, hok, pl, q⟩ := h
    refine ⟨_, (pss_cons (ps_set (i := 2) sc__law_stand.nd rfl (.inl rfl) (pe_tup pa_nil))
      (pss_cons (ps_for PassesOwn.never rfl (pi_list (pv 1)) (pg_name (i := 3) sc__law_stand.nd rfl (.inl rfl))
      (pss_cons (ps_set (i := 4) sc__law_stand.nd rfl (.inl rfl) (pe_op op_add pe_int (pe_callTy call_int1 (by rfl) m_int (by decide +kernel) (pa_cons (pe_cmpR op_eq (pe_ix (r := rIxT K) ix_tup (pv 3) pe_int (fun _ _ => rfl)) pe_str (nomark _)) pa_nil))))
      (pss_cons (ps_if (PW.pt (pw_or (pt_cmpR op_eq (pe_ix (r := rIxT K) ix_tup (pv 3) pe_int (fun _ _ => rfl)) pe_str (nomark _)) (pw_or1 (pt_cmpR op_eq (pe_ix (r := rIxT K) ix_tup (pv 3) pe_int (fun _ _ => rfl)) pe_str (nomark _))))) (pss_one (ps_set (i := 4) sc__law_stand.nd rfl (.inl rfl) (pe_ix (r := rIxT K) ix_tup (pv 3) pe_int (fun _ _ => rfl)))) pss_nil)
      (pss_one (ps_set (i := 2) sc__law_stand.nd rfl (.inl rfl) (pe_op (r := rCatA K) op_catA (pv 2) (pe_tup (pa_cons (pe_op op_mod (pe_call G__law_next (hr.mono (by decide)) (by rfl) g__law_next F__law_next.kp b__law_next .nil pass0 (pa_cons (pv 0) pa_nil)) (pv 4)) pa_nil))))))))
      (pss_one (ps_ret (pv 2))))), ?_⟩
    refine w_st (σ' := [some (.ref D), some (.ref a), none, none, none]) rfl ?_
    have wl : ws.length = ps.length := by rw [dpAll_len hd, List.length_map]
    walk_at "ct"
    refine ⟨len2 rfl, fun t nt => ?_⟩
    have s1 : Same H (upd H t (.tup [])) := same_upd nt
    have h1 : (upd H t (.tup [])) t = some (.tup ([].map V.int)) := upd_same
    generalize upd H t _ = H1 at *
    have d1 := (Dr.refl hD).same s1
    walk_at "ct"
    refine w_IL (.of (s1 _ _ ha)) ?_
    refine fb_list ws (fun n σ G => ∃ (t : Addr) (y3 y4 : Option V) (xs : List Int), σ = [some (.ref D), some (.ref a), some (.ref t), y3, y4] ∧ Dr D (c + n) H G ∧ SqT K G t (xs.map V.int) ∧ xs.length = n ∧ ∀ (i : Nat) (p : Part) (x : Int), ps[i]? = some p → xs[i]? = some x → 0 ≤ x ∧ x < p.places)
      ⟨t, none, none, [], rfl, d1, .of h1, rfl, fun i p x _ h => by simp at h⟩ ?_ ?_ ?_
    · rintro n σ G _ ⟨t, y3, y4, xs, rfl, dr, _⟩
      exact .of (dr.at hD ha)
    · rintro n v σ G hx ⟨t, y3, y4, xs, rfl, dr, ht, xl, hxs⟩
      have hn : n < ws.length := (List.getElem?_eq_some_iff.mp hx).1
      obtain ⟨p, hp⟩ : ∃ p, ps[n]? = some p := ⟨_, List.getElem?_eq_getElem (by omega)⟩
      obtain ⟨v', hv1, hd1⟩ := TrainAt.at (a := a) hd hp
      cases Option.some.inj (hx.symm.trans hv1)
      have pos := (hok p (List.mem_of_getElem? hp)).pos
      have hdG := dp_but (drO_ext hD) dr.1 hd1
      have small : (xs.map V.int).length + 1 ≤ sizeLine := by rw [List.length_map]; exact Nat.le_trans (show xs.length + 1 ≤ 1001 by omega) (by decide)
      have go : ∀ (m : Int), m = p.places → ∀ (G1 : Hp), Dr D (c + n + 1) G G1 → ∀ r, 0 ≤ r → r < m → ∀ (g : Addr), G1 g = none →
          ((xs.map V.int = [] → ∃ xs' : List Int, Dr D (c + (n + 1)) H (upd G1 g (.tup [.int r])) ∧ SqT K (upd G1 g (.tup [.int r])) g (xs'.map V.int) ∧ xs'.length = n + 1 ∧ ∀ (i : Nat) (p : Part) (x : Int), ps[i]? = some p → xs'[i]? = some x → 0 ≤ x ∧ x < p.places) ∧
           (∀ t', (upd G1 g (.tup [.int r])) t' = none → ∃ xs' : List Int, Dr D (c + (n + 1)) H (upd (upd G1 g (.tup [.int r])) t' (.tup (xs.map V.int ++ [.int r]))) ∧ SqT K (upd (upd G1 g (.tup [.int r])) t' (.tup (xs.map V.int ++ [.int r]))) t' (xs'.map V.int) ∧ xs'.length = n + 1 ∧ ∀ (i : Nat) (p : Part) (x : Int), ps[i]? = some p → xs'[i]? = some x → 0 ≤ x ∧ x < p.places)) := by
        intro m em G1 d1 r r0 r1 g ng
        have hxs' : ∀ (i : Nat) (p' : Part) (x : Int), ps[i]? = some p' → (xs ++ [r])[i]? = some x → 0 ≤ x ∧ x < p'.places := fun i p' x hp' hx' => by
          by_cases hi : i < n
          · rw [List.getElem?_append_left (by omega)] at hx'
            exact hxs i p' x hp' hx'
          · have hi2 : i = n := by
              have z := (List.getElem?_eq_some_iff.mp hx').1
              rw [List.length_append, xl] at z
              have z2 : i < n + 1 := z
              omega
            subst hi2
            cases Option.some.inj (hp.symm.trans hp')
            rw [List.getElem?_append_right (by omega), xl, Nat.sub_self] at hx'
            cases Option.some.inj hx'
            exact ⟨r0, by omega⟩
        have dd := (dr.trans d1).same (same_upd (o := .tup [.int r]) ng)
        refine ⟨fun e => ?_, fun t' nt' => ?_⟩
        · have : xs = [] := List.map_eq_nil_iff.mp e
          subst this
          exact ⟨[r], dd, .of upd_same, by show 1 = n + 1; have : 0 = n := xl; omega, hxs'⟩
        · exact ⟨xs ++ [r], dd.same (same_upd nt'), .of (by rw [upd_same, List.map_append]; rfl), by rw [List.length_append, xl]; rfl, hxs'⟩
      cases p with
      | wheel z ms =>
        obtain ⟨g, b, rfl, hg, hb⟩ := wheel_inv hdG
        walk_at "ct"
        refine .inr ⟨_, rfl, ?_⟩
        walk_at "ct"
        refine ⟨D, c + n, rfl, dr.2, by omega, fun n1 _ _ => ?_⟩
        have st := Dr.step dr.2 (c + n + 1)
        have ht1 := but_tup (drO_ext dr.2) st.1 ht
        generalize upd G D _ = G1 at *
        walk_at "ct"
        refine w_mod (show (0 : Int) < z from pos.1) fun r r0 r1 => ?_
        walk_at "ct"
        refine ⟨len2 rfl, fun g2 ng2 => ?_⟩
        obtain ⟨gA, gB⟩ := go z rfl G1 st r r0 r1 g2 ng2
        refine ⟨t, g2, _, _, rfl, rfl, Same.tup (same_upd ng2) ht1, .of upd_same, small, fun e => ?_, (fun _ e => nomatch e), fun e _ t' nt' => ?_⟩
        · obtain ⟨xs', a1, a2, a3, a4⟩ := gA e
          walk_at "ct"
          exact ⟨_, _, _, xs', rfl, a1, a2, a3, a4⟩
        · obtain ⟨xs', a1, a2, a3, a4⟩ := gB t' nt'
          walk_at "ct"
          exact ⟨_, _, _, xs', rfl, a1, a2, a3, a4⟩
      | click =>
        obtain ⟨g, rfl, hg⟩ := click_inv hdG
        walk_at "ct"
        refine .inr ⟨_, rfl, ?_⟩
        walk_at "ct"
        refine ⟨D, c + n, rfl, dr.2, by omega, fun n1 _ _ => ?_⟩
        have st := Dr.step dr.2 (c + n + 1)
        have ht1 := but_tup (drO_ext dr.2) st.1 ht
        generalize upd G D _ = G1 at *
        walk_at "ct"
        refine w_mod (by decide) fun r r0 r1 => ?_
        walk_at "ct"
        refine ⟨len2 rfl, fun g2 ng2 => ?_⟩
        obtain ⟨gA, gB⟩ := go (1 : Int) rfl G1 st r r0 r1 g2 ng2
        refine ⟨t, g2, _, _, rfl, rfl, Same.tup (same_upd ng2) ht1, .of upd_same, small, fun e => ?_, (fun _ e => nomatch e), fun e _ t' nt' => ?_⟩
        · obtain ⟨xs', a1, a2, a3, a4⟩ := gA e
          walk_at "ct"
          exact ⟨_, _, _, xs', rfl, a1, a2, a3, a4⟩
        · obtain ⟨xs', a1, a2, a3, a4⟩ := gB t' nt'
          walk_at "ct"
          exact ⟨_, _, _, xs', rfl, a1, a2, a3, a4⟩
      | rocker =>
        obtain ⟨g, rfl, hg⟩ := rocker_inv hdG
        walk_at "ct"
        refine .inr ⟨_, rfl, ?_⟩
        walk_at "ct"
        refine ⟨D, c + n, rfl, dr.2, by omega, fun n1 _ _ => ?_⟩
        have st := Dr.step dr.2 (c + n + 1)
        have ht1 := but_tup (drO_ext dr.2) st.1 ht
        generalize upd G D _ = G1 at *
        walk_at "ct"
        refine w_mod (by decide) fun r r0 r1 => ?_
        walk_at "ct"
        refine ⟨len2 rfl, fun g2 ng2 => ?_⟩
        obtain ⟨gA, gB⟩ := go (2 : Int) rfl G1 st r r0 r1 g2 ng2
        refine ⟨t, g2, _, _, rfl, rfl, Same.tup (same_upd ng2) ht1, .of upd_same, small, fun e => ?_, (fun _ e => nomatch e), fun e _ t' nt' => ?_⟩
        · obtain ⟨xs', a1, a2, a3, a4⟩ := gA e
          walk_at "ct"
          exact ⟨_, _, _, xs', rfl, a1, a2, a3, a4⟩
        · obtain ⟨xs', a1, a2, a3, a4⟩ := gB t' nt'
          walk_at "ct"
          exact ⟨_, _, _, xs', rfl, a1, a2, a3, a4⟩
      | spring k =>
        obtain ⟨g, rfl, hg⟩ := spring_inv hdG
        walk_at "ct"
        refine .inr ⟨_, rfl, ?_⟩
        walk_at "ct"
        refine ⟨D, c + n, rfl, dr.2, by omega, fun n1 _ _ => ?_⟩
        have st := Dr.step dr.2 (c + n + 1)
        have ht1 := but_tup (drO_ext dr.2) st.1 ht
        generalize upd G D _ = G1 at *
        walk_at "ct"
        refine w_mod (show (0 : Int) < k from pos.1) fun r r0 r1 => ?_
        walk_at "ct"
        refine ⟨len2 rfl, fun g2 ng2 => ?_⟩
        obtain ⟨gA, gB⟩ := go k rfl G1 st r r0 r1 g2 ng2
        refine ⟨t, g2, _, _, rfl, rfl, Same.tup (same_upd ng2) ht1, .of upd_same, small, fun e => ?_, (fun _ e => nomatch e), fun e _ t' nt' => ?_⟩
        · obtain ⟨xs', a1, a2, a3, a4⟩ := gA e
          walk_at "ct"
          exact ⟨_, _, _, xs', rfl, a1, a2, a3, a4⟩
        · obtain ⟨xs', a1, a2, a3, a4⟩ := gB t' nt'
          walk_at "ct"
          exact ⟨_, _, _, xs', rfl, a1, a2, a3, a4⟩
    · rintro σ G ⟨t, y3, y4, xs, rfl, dr, ht, xl, hxs⟩
      rw [wl] at dr xl
      walk_at "ct"
      exact q xs t G dr ht ⟨xl, hxs⟩
abbrev S__law_part_pushed : Stmt := topS 48
theorem sc__law_part_pushed : FnScope ["_law_part", "_law_place", "_law_way"] ["_law_part", "_law_place", "_law_way"] (defScope S__law_part_pushed) := ⟨rfl, rfl, rfl, by decide +kernel, rfl, by decide +kernel, by decide +kernel⟩
def sp__law_part_pushed (K : PySem.W.Frag) : Sp := fun vs H Q _ => ∃ (v : V) (p : Part) (x w : Int), vs = [v, .int x, .int w] ∧ Dp K H v p.data ∧ p.ok ∧ 0 ≤ x ∧ x < p.places ∧ Sign w ∧ ∀ t H', Same H H' → H t = none → H' t = some (.tup [.int (pp p x w).1, .int (pp p x w).2]) → Q (.ref t) H'
theorem ok__law_part_pushed {f : Addr} {fd : FuncData} (F : Fun K "_law_part_pushed" "_law_part_pushed" S__law_part_pushed f fd) (m_max : mg "max" = none) (m_int : mg "int" = none) :
    FnOk P w K mg base CX0 1 f fd ["_law_part", "_law_place", "_law_way"] (sp__law_part_pushed K) := by
  refine F.ok sc__law_part_pushed (fun vs H Q E h => ?_) (fun cdv A outer s H vs Q E hr h => ?_)
  ·
    obtain ⟨v, p, x, w, rfl, _⟩ := h
    rfl
  ·
    obtain ⟨v, p, x, w, rfl, hp, hok, x0, x1, hw, q⟩ := h
    refine ⟨_, (pss_cons (ps_if (PW.pt (pw_and (pt_cmpR op_eq (pe_ix (r := rIxT K) ix_tup (pv 0) pe_int (fun _ _ => rfl)) pe_str (nomark _)) (pw_and1 (pt_cmpR op_eq (pv 2) pe_int (nomark _))))) (pss_cons (ps_set (i := 1) sc__law_part_pushed.nd rfl (.inl rfl) (pe_op op_mod (pe_op op_add (pv 1) pe_int) (pe_ix (r := rIxT K) ix_tup (pv 0) pe_int (fun _ _ => rfl))))
      (pss_one (ps_ret (pe_tup (pa_cons (pv 1) (pa_cons (pe_callTy call_int1 (by rfl) m_int (by decide +kernel) (pa_cons (pe_cmpR (r := rIn K false) op_in_seq (pv 1) (pe_ix (r := rIxT K) ix_tup (pv 0) pe_int (fun _ _ => rfl)) (by rfl)) pa_nil)) pa_nil)))))) pss_nil)
      (pss_cons (ps_if (pt_cmpR op_eq (pe_ix (r := rIxT K) ix_tup (pv 0) pe_int (fun _ _ => rfl)) pe_str (nomark _)) (pss_one (ps_ret (pe_tup (pa_cons (pe_op op_mod (pe_op op_sub (pv 1) pe_int) (pe_ix (r := rIxT K) ix_tup (pv 0) pe_int (fun _ _ => rfl))) (pa_cons (pe_op op_sub pe_int (pe_callTy call_int1 (by rfl) m_int (by decide +kernel) (pa_cons (pe_cmpR (r := rIn K false) op_in_seq (pv 1) (pe_ix (r := rIxT K) ix_tup (pv 0) pe_int (fun _ _ => rfl)) (by rfl)) pa_nil))) pa_nil))))) pss_nil)
      (pss_cons (ps_if (pt_cmpR op_eq (pe_ix (r := rIxT K) ix_tup (pv 0) pe_int (fun _ _ => rfl)) pe_str (nomark _)) (pss_one (ps_ret (pe_tup (pa_cons pe_int (pa_cons (pe_callTy call_int1 (by rfl) m_int (by decide +kernel) (pa_cons (pe_cmpR op_eq (pv 2) pe_int (nomark _)) pa_nil)) pa_nil))))) pss_nil)
      (pss_cons (ps_if (pt_cmpR op_eq (pe_ix (r := rIxT K) ix_tup (pv 0) pe_int (fun _ _ => rfl)) pe_str (nomark _)) (pss_one (ps_ret (pe_tup (pa_cons (pe_callTy call_int1 (by rfl) m_int (by decide +kernel) (pa_cons (pe_cmpR op_eq (pv 2) pe_int (nomark _)) pa_nil)) (pa_cons (pe_callTy call_int1 (by rfl) m_int (by decide +kernel) (pa_cons (pe_and (pe_cmpR op_eq (pv 2) pe_int (nomark _)) (pe_one (pe_cmpR op_eq (pv 1) pe_int (nomark _)))) pa_nil)) pa_nil))))) pss_nil)
      (pss_cons (ps_if (pt_cmpR op_eq (pv 2) pe_int (nomark _)) (pss_one (ps_ret (pe_tup (pa_cons (pe_op op_mod (pe_op op_add (pv 1) pe_int) (pe_ix (r := rIxT K) ix_tup (pv 0) pe_int (fun _ _ => rfl))) (pa_cons (pe_callTy call_int1 (by rfl) m_int (by decide +kernel) (pa_cons (pe_cmpR op_eq (pe_op op_add (pv 1) pe_int) (pe_ix (r := rIxT K) ix_tup (pv 0) pe_int (fun _ _ => rfl)) (nomark _)) pa_nil)) pa_nil))))) pss_nil)
      (pss_one (ps_ret (pe_tup (pa_cons (pe_callB (call_max2 rfl) (by rfl) m_max (by decide +kernel) (pa_cons pe_int (pa_cons (pe_op op_sub (pv 1) pe_int) pa_nil))) (pa_cons pe_int pa_nil)))))))))), ?_⟩
    refine w_st (σ' := [some v, some (.int x), some (.int w)]) rfl ?_
    cases p with
    | wheel z ms =>
      obtain ⟨a, b, rfl, ha, hb⟩ := wheel_inv hp
      have hz : 1 ≤ z := hok.1
      walk_at "ct"
      refine w_ite (fun e => ?_) (fun e => ?_)
      · walk_at "ct"
        refine w_rI (by omega) ?_
        walk_at "ct"
        refine w_inT hb ?_
        walk_at "ct"
        refine .inr ⟨_, rfl, ?_⟩
        walk_at "ct"
        refine ⟨len2 rfl, fun p np => ?_⟩
        refine q _ _ (same_upd np) np ?_
        rw [upd_same]
        simp only [pp]
        rw [if_pos e, e]
        by_cases e2 : (x + 1) % z ∈ ms
        · rw [decide_eq_true e2, if_pos e2, if_pos rfl]
        · rw [decide_eq_false e2, if_neg e2, if_neg Bool.false_ne_true]
      · have e1 : w = -1 := hw.elim (fun z => absurd z e) id
        walk_at "ct"
        refine w_rI (by omega) ?_
        walk_at "ct"
        refine w_inT hb ?_
        walk_at "ct"
        refine .inr ⟨_, rfl, ?_⟩
        walk_at "ct"
        refine ⟨len2 rfl, fun p np => ?_⟩
        refine q _ _ (same_upd np) np ?_
        rw [upd_same]
        simp only [pp]
        rw [if_neg e, e1, show x + -1 = x - 1 by omega]
        by_cases e2 : x ∈ ms
        · rw [decide_eq_true e2, if_pos e2, if_pos rfl]
          rfl
        · rw [decide_eq_false e2, if_neg e2, if_neg Bool.false_ne_true]
          rfl
    | click =>
      obtain ⟨a, rfl, ha⟩ := click_inv hp
      walk_at "ct"
      refine .inr ⟨_, rfl, ?_⟩
      walk_at "ct"
      refine ⟨len2 rfl, fun p np => ?_⟩
      refine q _ _ (same_upd np) np ?_
      rw [upd_same]
      simp only [pp]
      by_cases e : w = 1
      · rw [decide_eq_true e, if_pos e, if_pos rfl]
      · rw [decide_eq_false e, if_neg e, if_neg Bool.false_ne_true]
    | rocker =>
      obtain ⟨a, rfl, ha⟩ := rocker_inv hp
      walk_at "ct"
      refine .inr ⟨_, rfl, ?_⟩
      walk_at "ct"
      refine w_ite (fun e => ?_) (fun e => ?_)
      · walk_at "ct"
        refine .inr ⟨_, rfl, ?_⟩
        walk_at "ct"
        refine ⟨len2 rfl, fun p np => ?_⟩
        refine q _ _ (same_upd np) np ?_
        rw [upd_same]
        simp only [pp]
        rw [decide_eq_true e, if_pos e]
        by_cases e2 : x = 0
        · rw [decide_eq_true e2, if_pos (show w = 1 ∧ x = 0 from ⟨e, e2⟩), if_pos rfl]
        · rw [decide_eq_false e2, if_neg (show ¬ (w = 1 ∧ x = 0) from fun z => e2 z.2), if_neg Bool.false_ne_true]
          rfl
      · walk_at "ct"
        refine .inr ⟨_, rfl, ?_⟩
        walk_at "ct"
        refine ⟨len2 rfl, fun p np => ?_⟩
        refine q _ _ (same_upd np) np ?_
        rw [upd_same]
        simp only [pp]
        rw [decide_eq_false e, if_neg e, if_neg (show ¬ (w = 1 ∧ x = 0) from fun z => e z.1)]
        rfl
    | spring k =>
      obtain ⟨a, rfl, ha⟩ := spring_inv hp
      have hk : 1 ≤ k := hok.1
      have xk : x < k := x1
      walk_at "ct"
      refine w_ite (fun e => ?_) (fun e => ?_)
      · walk_at "ct"
        refine w_rI (by omega) ?_
        walk_at "ct"
        refine .inr ⟨_, rfl, ?_⟩
        walk_at "ct"
        refine ⟨len2 rfl, fun p np => ?_⟩
        refine q _ _ (same_upd np) np ?_
        rw [upd_same]
        simp only [pp]
        rw [if_pos e]
        by_cases e2 : x = k - 1
        · rw [if_pos e2, decide_eq_true (show x + 1 = k by omega), if_pos rfl, show x + 1 = k by omega, Int.emod_self]
        · rw [if_neg e2, decide_eq_false (show ¬ x + 1 = k by omega), if_neg Bool.false_ne_true, Int.emod_eq_of_lt (by omega) (by omega)]
      · walk_at "ct"
        refine ⟨_, _, rfl, ?_⟩
        walk_at "ct"
        refine ⟨len2 rfl, fun p np => ?_⟩
        refine q _ _ (same_upd np) np ?_
        rw [upd_same]
        simp only [pp]
        rw [if_neg e]
abbrev S__law_given : Stmt := topS 49
theorem sc__law_given : FnScope ["_law_train_here", "_law_stand_here", "_law_pushes", "_law_found", "_law_here", "_law_way", "_law_at", "_law_part"] ["_law_train_here", "_law_stand_here", "_law_pushes"] (defScope S__law_given) := ⟨rfl, rfl, rfl, by decide +kernel, rfl, by decide +kernel, by decide +kernel⟩
def sp__law_given (K : PySem.W.Frag) : Sp := fun vs H Q _ => ∃ (a t b : Addr) (ps : List Part) (xs ss : List Int), vs = [.ref a, .ref t, .ref b] ∧ TrainAt K H a ps ∧ (∀ p ∈ ps, p.ok) ∧ 1 ≤ ps.length ∧ ps.length ≤ 1000 ∧ SqT K H t (xs.map V.int) ∧ StandOk ps xs ∧ SqL K H b (ss.map V.int) ∧ (∀ s ∈ ss, Sign s) ∧ ss.length ≤ 1000 ∧
  ∀ l H', Same H H' → H l = none → H' l = some (.lst ((fedS ps xs ss).2.map V.int)) → Q (.ref l) H'
theorem ok__law_given {f : Addr} {fd : FuncData} {f__law_part_pushed : Addr} {fd__law_part_pushed : FuncData} (F : Fun K "_law_given" "_law_given" S__law_given f fd)
    (F__law_part_pushed : Fun K "_law_part_pushed" "_law_part_pushed" S__law_part_pushed f__law_part_pushed fd__law_part_pushed) (b__law_part_pushed : Binds K fd__law_part_pushed ["_law_part", "_law_place", "_law_way"] []) (g__law_part_pushed : mg "_law_part_pushed" = some (.ref f__law_part_pushed)) (G__law_part_pushed : FnOk P w K mg base CX0 1 f__law_part_pushed fd__law_part_pushed ["_law_part", "_law_place", "_law_way"] (sp__law_part_pushed K)) (m_list : mg "list" = none) (m_enumerate : mg "enumerate" = none) :
    FnOk P w K mg base CX0 2 f fd ["_law_train_here", "_law_stand_here", "_law_pushes"] (sp__law_given K) := by
  refine F.ok sc__law_given (fun vs H Q E h => ?_) (fun cdv A outer s H vs Q E hr h => ?_)
  ·
    obtain ⟨a, t, b, ps, xs, ss, rfl, _⟩ := h
    rfl
  ·
    obtain ⟨a, t, b, ps, xs, ss, rfl, ⟨vs, hv, hvd⟩, hok, p1, p2, hS, hso, hG, hss, hsl, q⟩ := h
    refine ⟨_, (pss_cons (ps_set (i := 3) sc__law_given.nd rfl (.inl rfl) (pe_lst pa_nil))
      (pss_cons (ps_set (i := 4) sc__law_given.nd rfl (.inl rfl) (pe_callTy call_list_of (by rfl) m_list (by decide +kernel) (pa_cons (pv 1) pa_nil)))
      (pss_cons (ps_for PassesOwn.never rfl (pi_list (pv 2)) (pg_name (i := 5) sc__law_given.nd rfl (.inl rfl))
      (pss_cons (ps_for PassesOwn.never rfl (pi_enum (by rfl) m_enumerate (pa_cons (pv 0) pa_nil)) (pg_tup rfl (pgs_cons (pg_name (i := 6) sc__law_given.nd rfl (.inl rfl)) (pgs_cons (pg_name (i := 7) sc__law_given.nd rfl (.inl rfl)) pgs_nil)))
      (pss_one (ps_if (pt_cmpR op_ne (pv 5) pe_int (nomark _)) (pss_one (ps_asg (pe_call G__law_part_pushed (hr.mono (by decide)) (by rfl) g__law_part_pushed F__law_part_pushed.kp b__law_part_pushed .nil pass0 (pa_cons (pv 7) (pa_cons (pe_ix (r := rIxL K) ix_list (pv 4) (pv 6) (fun _ _ => rfl)) (pa_cons (pv 5) pa_nil)))) (pg_tup rfl (pgs_cons (pg_sub (pv 4) (pv 6) set_list) (pgs_cons (pg_name (i := 5) sc__law_given.nd rfl (.inl rfl)) pgs_nil))))) pss_nil)))
      (pss_one (ps_expr (pe_bm PySem.F.plainAttrs_list PySem.F.slot_list_append PySem.F.type_list_append mt_append (pv 3) (pa_cons (pv 5) pa_nil))))))
      (pss_one (ps_ret (pv 3)))))), ?_⟩
    refine w_st (σ' := [some (.ref a), some (.ref t), some (.ref b), none, none, none, none, none]) rfl ?_
    have hstl := standL_of hok hso
    have hvl : vs.length = ps.length := by rw [dpAll_len hvd, List.length_map]
    walk_at "ct"
    refine ⟨len2 rfl, fun l nl => ?_⟩
    have s1 : Same H (upd H l (.lst [])) := same_upd nl
    have h1 : (upd H l (.lst [])) l = some (.lst []) := upd_same
    generalize upd H l _ = H1 at *
    walk_at "ct"
    refine ⟨t, _, rfl, .inr (Same.tup s1 hS), fun hr nhr => ?_⟩
    have u2 : Same H1 (upd H1 hr (.lst (xs.map V.int))) := same_upd nhr
    have h2 : (upd H1 hr (.lst (xs.map V.int))) hr = some (.lst (xs.map V.int)) := upd_same
    generalize upd H1 hr _ = H2 at *
    have s2 := s1.trans u2
    have nhrH := s1.free nhr
    have lh : l ≠ hr := ne_of_none h1 nhr
    walk_at "ct"
    refine w_IL (s2.seq hG) ?_
    refine fb_list (ss.map V.int) (fun k σ G => ∃ (y5 y6 y7 : Option V), σ = [some (.ref a), some (.ref t), some (.ref b), some (.ref l), some (.ref hr), y5, y6, y7] ∧ Same H G ∧ G l = some (.lst ((fedS ps xs (ss.take k)).2.map V.int)) ∧ G hr = some (.lst ((fedS ps xs (ss.take k)).1.map V.int)))
      ⟨none, none, none, rfl, s2, u2 _ _ h1, h2⟩ ?_ ?_ ?_
    · rintro k σ G _ ⟨y5, y6, y7, rfl, sG, _⟩
      exact sG.seq hG
    · rintro k x σ G hx ⟨y5, y6, y7, rfl, sG, hl, hh⟩
      obtain ⟨c, hc, rfl⟩ : ∃ c : Int, ss[k]? = some c ∧ x = .int c := by
        rw [List.getElem?_map] at hx
        cases e : ss[k]? with
        | none => rw [e] at hx; cases hx
        | some c => rw [e] at hx; exact ⟨c, rfl, (Option.some.inj hx).symm⟩
      have hk : k < ss.length := (List.getElem?_eq_some_iff.mp hc).1
      have hcs := hss c (List.mem_of_getElem? hc)
      have hst := fedS_stand (ss := ss.take k) p1 hstl fun s hs => .inr (hss s (List.mem_of_mem_take hs))
      have ft := fedS_take (ps := ps) xs hc
      have fl : (fedS ps xs (ss.take k)).2.length ≤ 1000 := by
        rw [fedS_len, List.length_take]
        omega
      obtain ⟨ys, hys⟩ : ∃ ys, ys = (fedS ps xs (ss.take k)).1 := ⟨_, rfl⟩
      obtain ⟨os, hos⟩ : ∃ os, os = (fedS ps xs (ss.take k)).2 := ⟨_, rfl⟩
      rw [← hys] at hh hst ft
      rw [← hos] at hl fl ft
      have yl : ys.length = ps.length := hst.ok.1
      walk_at "ct"
      refine w_IE (sG.seq hv) ?_
      refine fb_enumL vs (fun n σ G2 => ∃ (y6 y7 : Option V), σ = [some (.ref a), some (.ref t), some (.ref b), some (.ref l), some (.ref hr), some (.int (runN ps 0 (ys, c) n).2), y6, y7] ∧ Same H G2 ∧ G2 l = some (.lst (os.map V.int)) ∧ G2 hr = some (.lst ((runN ps 0 (ys, c) n).1.map V.int))) ⟨_, _, rfl, sG, hl, hh⟩ ?_ ?_ ?_
      · rintro n σ G2 _ ⟨y6, y7, rfl, s2, _⟩
        exact s2.seq hv
      · rintro n v Tp σ G2 hx ⟨y6, y7, rfl, sG2, hl2, hh2⟩ nT
        have hn : n < vs.length := (List.getElem?_eq_some_iff.mp hx).1
        obtain ⟨p, hp⟩ : ∃ p, ps[n]? = some p := ⟨_, List.getElem?_eq_getElem (by omega)⟩
        obtain ⟨v', hv1, hd1⟩ := TrainAt.at (a := a) hvd hp
        cases Option.some.inj (hx.symm.trans hv1)
        obtain ⟨x, hx1⟩ : ∃ x, ys[n]? = some x := ⟨_, List.getElem?_eq_getElem (by omega)⟩
        have hx2 : (runN ps 0 (ys, c) n).1[n]? = some x := by
          rw [runN_ahead ps 0 (ys, c) n n (by omega)]
          exact hx1
        have hx0 := hst.ok.2 _ _ _ hp hx1
        have sT : Same G2 (upd G2 Tp (.tup [.int (n : Nat), v])) := same_upd nT
        have hT : (upd G2 Tp (.tup [.int (n : Nat), v])) Tp = some (.tup [.int (n : Nat), v]) := upd_same
        generalize upd G2 Tp _ = G3 at *
        have s3 := sG2.trans sT
        have hl3 := sT _ _ hl2
        have hh3 := sT _ _ hh2
        refine w_gtup (.of hT) rfl ?_
        walk_at "ct"
        refine w_iteN (fun e => ?_) (fun e => ?_)
        · walk_at "ct"
          refine w_ixL (.of hh3) (at_of (j := n) rfl (by rw [List.getElem?_map, hx2]; rfl)) ?_
          walk_at "ct"
          refine ⟨v, p, x, _, rfl, dp_same s3 hd1, hok p (List.mem_of_getElem? hp), hx0.1, hx0.2, (runN_sign ps 0 (ys, c) hcs n).resolve_left e, fun u G4 s4 _ hu => ?_⟩
          refine w_gtup (.of hu) rfl ?_
          walk_at "ct"
          refine w_setL (s4 _ _ hh3) (ix_at (j := n) rfl (by rw [List.length_map, runN_len]; show n < ys.length; omega)) ?_
          walk_at "ct"
          have er : runN ps 0 (ys, c) (n + 1) = ((runN ps 0 (ys, c) n).1.set n (pp p x (runN ps 0 (ys, c) n).2).1, (pp p x (runN ps 0 (ys, c) n).2).2) := by
            show stp ps _ (0 + n) = _
            rw [Nat.zero_add]
            exact stp_at e hp hx2
          refine ⟨some (.int (n : Nat)), some v, by rw [er], same_new (s3.trans s4) nhrH, ?_, ?_⟩
          · rw [upd_ne lh]
            exact s4 _ _ hl3
          · rw [er, upd_same, List.map_set]
        · walk_at "ct"
          have er : runN ps 0 (ys, c) (n + 1) = runN ps 0 (ys, c) n := stp_zero e
          refine ⟨some (.int (n : Nat)), some v, by rw [er], s3, hl3, ?_⟩
          rw [er]
          exact hh3
      · rintro σ G2 ⟨y6, y7, rfl, sG2, hl2, hh2⟩
        have er : runN ps 0 (ys, c) vs.length = Ct.run ps ys 0 c := by unfold Ct.run; rw [hvl, Nat.sub_zero]
        rw [er] at hh2 ⊢
        walk_at "ct"
        refine ⟨ty_list hl2, ?_⟩
        walk_at "ct"
        refine w_append hl2 (by rw [List.length_map]; exact Nat.lt_of_le_of_lt fl (by decide)) ?_
        walk_at "ct"
        refine ⟨_, _, _, rfl, same_new sG2 nl, ?_, ?_⟩
        · rw [upd_same, ft, List.map_append]
          rfl
        · rw [upd_ne lh.symm, ft]
          exact hh2
    · rintro σ G ⟨y5, y6, y7, rfl, sG, hl, hh⟩
      rw [List.length_map, List.take_length] at hl
      walk_at "ct"
      exact q l G sG nl hl
abbrev S__law_spots : Stmt := topS 51
theorem sc__law_spots : FnScope ["_law_ways", "_law_teeth", "_law_here", "_law_found", "_law_way"] ["_law_ways", "_law_teeth"] (defScope S__law_spots) := ⟨rfl, rfl, rfl, by decide +kernel, rfl, by decide +kernel, by decide +kernel⟩
def sp__law_spots (K : PySem.W.Frag) : Sp := fun vs H Q _ => ∃ (a : Addr) (cs : List Int) (t : Int), vs = [.ref a, .int t] ∧ SqL K H a (cs.map V.int) ∧ 1 ≤ t ∧ cs.length ≤ 1000 ∧ ∀ l H', Same H H' → H l = none → H' l = some (.lst ((List.range cs.length).map (spotV cs t))) → Q (.ref l) H'
theorem ok__law_spots {f : Addr} {fd : FuncData} (F : Fun K "_law_spots" "_law_spots" S__law_spots f fd) (m_int : mg "int" = none) :
    FnOk P w K mg base CX0 1 f fd ["_law_ways", "_law_teeth"] (sp__law_spots K) := by
  refine F.ok sc__law_spots (fun vs H Q E h => ?_) (fun cdv A outer s H vs Q E hr h => ?_)
  ·
    obtain ⟨a, cs, t, rfl, _⟩ := h
    rfl
  ·
    obtain ⟨a, cs, t, rfl, ha, t1, cl, q⟩ := h
    refine ⟨_, (pss_cons (ps_set (i := 2) sc__law_spots.nd rfl (.inl rfl) pe_int)
      (pss_cons (ps_set (i := 3) sc__law_spots.nd rfl (.inl rfl) (pe_lst pa_nil))
      (pss_cons (ps_for PassesOwn.never rfl (pi_list (pv 0)) (pg_name (i := 4) sc__law_spots.nd rfl (.inl rfl))
      (pss_cons (ps_if (pt_cmpR op_eq (pv 4) pe_int (nomark _)) (pss_one (ps_expr (pe_bm PySem.F.plainAttrs_list PySem.F.slot_list_append PySem.F.type_list_append mt_append (pv 3) (pa_cons pe_non pa_nil)))) (pss_one (ps_expr (pe_bm PySem.F.plainAttrs_list PySem.F.slot_list_append PySem.F.type_list_append mt_append (pv 3) (pa_cons (pe_op op_mod (pe_op op_add (pv 2) (pe_callTy call_int1 (by rfl) m_int (by decide +kernel) (pa_cons (pe_cmpR op_eq (pv 4) pe_int (nomark _)) pa_nil))) (pv 1)) pa_nil)))))
      (pss_one (ps_set (i := 2) sc__law_spots.nd rfl (.inl rfl) (pe_op op_mod (pe_op op_add (pv 2) (pv 4)) (pv 1))))))
      (pss_one (ps_ret (pv 3)))))), ?_⟩
    refine w_st (σ' := [some (.ref a), some (.int t), none, none, none]) rfl ?_
    walk_at "ct"
    refine ⟨len2 rfl, fun l nl => ?_⟩
    have s1 : Same H (upd H l (.lst [])) := same_upd nl
    have h1 : (upd H l (.lst [])) l = some (.lst []) := upd_same
    generalize upd H l _ = H1 at *
    walk_at "ct"
    refine w_IL (s1.seq ha) ?_
    refine fb_list (cs.map V.int) (fun n σ G => ∃ (y4 : Option V), σ = [some (.ref a), some (.int t), some (.int ((cs.take n).sum % t)), some (.ref l), y4] ∧ Same H G ∧ G l = some (.lst ((List.range n).map (spotV cs t)))) ⟨none, by rw [List.take_zero, List.sum_nil, Int.zero_emod], s1, h1⟩ ?_ ?_ ?_
    · rintro n σ G _ ⟨y4, rfl, sG, _⟩
      exact sG.seq ha
    · rintro n x σ G hx ⟨y4, rfl, sG, hG⟩
      obtain ⟨c, hc, rfl⟩ : ∃ c : Int, cs[n]? = some c ∧ x = .int c := by
        rw [List.getElem?_map] at hx
        cases e : cs[n]? with
        | none => rw [e] at hx; cases hx
        | some c => rw [e] at hx; exact ⟨c, rfl, (Option.some.inj hx).symm⟩
      have hn : n < cs.length := (List.getElem?_eq_some_iff.mp hc).1
      have tk : (cs.take (n + 1)).sum = (cs.take n).sum + c := by
        rw [List.take_add_one, hc, Option.toList_some, List.sum_append]
        simp
      have small : ((List.range n).map (spotV cs t)).length < sizeLine := by rw [List.length_map, List.length_range]; exact small1000 (by omega)
      walk_at "ct"
      refine w_ite (fun e => ?_) (fun e => ?_)
      · walk_at "ct"
        refine ⟨ty_list hG, ?_⟩
        walk_at "ct"
        refine w_append hG small ?_
        walk_at "ct"
        refine w_rIv (.int ((cs.take (n + 1)).sum % t)) (show (0 : Int) < t by omega) (by rw [tk, Int.emod_add_emod]) ?_
        walk_at "ct"
        refine ⟨_, rfl, same_new sG nl, ?_⟩
        rw [upd_same, List.range_succ, List.map_append]
        show _ = some (HO.lst (List.map (spotV cs t) (List.range n) ++ [spotV cs t n]))
        rw [show spotV cs t n = .non by unfold spotV; rw [hc, e, if_pos rfl]]
      · walk_at "ct"
        refine ⟨ty_list hG, ?_⟩
        walk_at "ct"
        refine .inr ⟨_, rfl, ?_⟩
        walk_at "ct"
        have sp : spotV cs t n = .int (((cs.take n).sum % t + (if decide (c = 1) = true then 1 else 0)) % t) := by
          unfold spotV toothN
          rw [hc, if_neg (by simpa using e), Int.emod_add_emod]
          by_cases c1 : c = 1
          · rw [if_pos (by rw [c1]), if_pos (decide_eq_true c1)]
          · rw [if_neg (by simpa using c1), if_neg (by rw [decide_eq_false c1]; exact Bool.false_ne_true), Int.add_zero]
        refine w_rIv (spotV cs t n) (show (0 : Int) < t by omega) sp.symm ?_
        walk_at "ct"
        refine w_append hG small ?_
        walk_at "ct"
        refine w_rIv (.int ((cs.take (n + 1)).sum % t)) (show (0 : Int) < t by omega) (by rw [tk, Int.emod_add_emod]) ?_
        walk_at "ct"
        refine ⟨_, rfl, same_new sG nl, ?_⟩
        rw [upd_same, List.range_succ, List.map_append]
        rfl
    · rintro σ G ⟨y4, rfl, sG, hG⟩
      rw [List.length_map] at hG
      walk_at "ct"
      exact q l G sG nl hG
abbrev S__law_shows_behind : Stmt := topS 50
theorem sc__law_shows_behind : FnScope ["_law_draws_here", "_law_train_here", "_law_stand_here", "_law_most", "_law_kind", "_law_many", "_law_teeth", "_law_marks_here", "_law_pushes", "_law_ways", "_law_shows", "_law_way", "_law_spot", "_law_given_here", "_law_shown", "_law_turn", "_law_k", "_law_pick", "_law_place"] ["_law_draws_here", "_law_train_here", "_law_stand_here", "_law_most"] (defScope S__law_shows_behind) := ⟨rfl, rfl, rfl, by decide +kernel, rfl, by decide +kernel, by decide +kernel⟩
def sp__law_shows_behind (K : PySem.W.Frag) : Sp := fun vs H Q _ => ∃ (D a t : Addr) (c most : Nat) (ws : List V) (ps : List Part) (xs : List Int), vs = [.ref D, .ref a, .ref t, .int (most : Int)] ∧ H D = some (DrO D c) ∧ c ≤ 800000 ∧ H a = some (.lst ws) ∧ DpAll K H ws (ps.map Part.data) ∧ (∀ p ∈ ps, p.ok) ∧ 1 ≤ ps.length ∧ ps.length ≤ 1000 ∧ SqT K H t (xs.map V.int) ∧ StandOk ps xs ∧ 1 ≤ most ∧ most ≤ 900 ∧
  ∀ g wa sa zs (ss : List (Int × Int)) c' H', Dr D c' H H' → c' ≤ c + 10000 → H' g = some (.tup [.ref wa, .ref sa]) → H wa = none → H sa = none → H' wa = some (.lst ((fedS ps xs (ss.map (·.1))).2.map V.int)) → H' sa = some (.lst zs) → DpAll K H' zs (ss.map sh2D) → (∀ s ∈ ss, Sh2Ok s) → ss.length ≤ most → Q (.ref g) H'
theorem ok__law_shows_behind {f : Addr} {fd : FuncData} {f__law_next : Addr} {fd__law_next : FuncData} {f__law_spots : Addr} {fd__law_spots : FuncData} {f__law_given : Addr} {fd__law_given : FuncData} {f__law_runs : Addr} {fd__law_runs : FuncData} (F : Fun K "_law_shows_behind" "_law_shows_behind" S__law_shows_behind f fd)
    (F__law_next : Fun K "_law_next" "_law_next" S__law_next f__law_next fd__law_next) (b__law_next : Binds K fd__law_next ["_law_draws_here"] []) (g__law_next : mg "_law_next" = some (.ref f__law_next)) (G__law_next : FnOk P w K mg base CX0 1 f__law_next fd__law_next ["_law_draws_here"] (sp__law_next K))
    (F__law_spots : Fun K "_law_spots" "_law_spots" S__law_spots f__law_spots fd__law_spots) (b__law_spots : Binds K fd__law_spots ["_law_ways", "_law_teeth"] []) (g__law_spots : mg "_law_spots" = some (.ref f__law_spots)) (G__law_spots : FnOk P w K mg base CX0 1 f__law_spots fd__law_spots ["_law_ways", "_law_teeth"] (sp__law_spots K))
    (F__law_given : Fun K "_law_given" "_law_given" S__law_given f__law_given fd__law_given) (b__law_given : Binds K fd__law_given ["_law_train_here", "_law_stand_here", "_law_pushes"] []) (g__law_given : mg "_law_given" = some (.ref f__law_given)) (G__law_given : FnOk P w K mg base CX0 2 f__law_given fd__law_given ["_law_train_here", "_law_stand_here", "_law_pushes"] (sp__law_given K))
    (F__law_runs : Fun K "_law_runs" "_law_runs" S__law_runs f__law_runs fd__law_runs) (b__law_runs : Binds K fd__law_runs ["_law_draws_here", "_law_many"] []) (g__law_runs : mg "_law_runs" = some (.ref f__law_runs)) (G__law_runs : FnOk P w K mg base CX0 2 f__law_runs fd__law_runs ["_law_draws_here", "_law_many"] (sp__law_runs K)) (m_zip : mg "zip" = none) (m_range : mg "range" = none) (m_int : mg "int" = none) (m_len : mg "len" = none) (m_max : mg "max" = none) :
    FnOk P w K mg base CX0 3 f fd ["_law_draws_here", "_law_train_here", "_law_stand_here", "_law_most"] (sp__law_shows_behind K) := by
  refine F.ok sc__law_shows_behind (fun vs H Q E h => ?_) (fun cdv A outer s H vs Q E hr h => ?_)
  ·
    obtain ⟨D, a, t, c, most, ws, ps, xs, rfl, _⟩ := h
    rfl
  ·
    obtain ⟨D, a, t, c, most, ws, ps, xs, rfl, hD, hc, ha, hd, hok, p1, p2, hS, hso, m1, m2, q⟩ := h
    refine ⟨_, (pss_cons (ps_set (i := 4) sc__law_shows_behind.nd rfl (.inl rfl) (pe_op op_mod (pe_call G__law_next (hr.mono (by decide)) (by rfl) g__law_next F__law_next.kp b__law_next .nil pass0 (pa_cons (pv 0) pa_nil)) pe_int))
      (pss_cons (ps_set (i := 5) sc__law_shows_behind.nd rfl (.inl rfl) (pe_op op_mod (pe_call G__law_next (hr.mono (by decide)) (by rfl) g__law_next F__law_next.kp b__law_next .nil pass0 (pa_cons (pv 0) pa_nil)) (pv 3)))
      (pss_cons (ps_set (i := 6) sc__law_shows_behind.nd rfl (.inl rfl) (pe_op op_add pe_int (pe_op op_mod (pe_call G__law_next (hr.mono (by decide)) (by rfl) g__law_next F__law_next.kp b__law_next .nil pass0 (pa_cons (pv 0) pa_nil)) (pe_ix (r := rIxL K) ix_list (pe_lst (pa_cons pe_int (pa_cons pe_int pa_nil))) (pe_op op_mod (pe_call G__law_next (hr.mono (by decide)) (by rfl) g__law_next F__law_next.kp b__law_next .nil pass0 (pa_cons (pv 0) pa_nil)) pe_int) (fun _ _ => rfl)))))
      (pss_cons (ps_setLc (i := 7) (own := [("_law_place", 18)]) (g := gName 18)  rfl sc__law_shows_behind.nd rfl rfl (sw_true rfl rfl rfl (by decide +kernel)) (pi_range1 (by rfl) m_range (pa_cons (pv 6) pa_nil)) (blkOk_by (own := [("_law_place", 18)]) (N := ["_law_draws_here", "_law_train_here", "_law_stand_here", "_law_most", "_law_kind", "_law_many", "_law_teeth", "_law_marks_here", "_law_pushes", "_law_ways", "_law_shows", "_law_way", "_law_spot", "_law_given_here", "_law_shown", "_law_turn", "_law_k", "_law_pick", "_law_place"]) (sc := defScope S__law_shows_behind) (by decide +kernel)) (fun _ _ _ _ _ => pg_name (i := 18) sc__law_shows_behind.nd rfl (Or.inl rfl)) (fun _ _ _ _ _ => pts_nil) (fun _ _ _ _ _ => (pe_cmpR op_eq (pe_op op_mod (pe_call G__law_next (hr.mono (by decide)) (by rfl) g__law_next F__law_next.kp b__law_next .nil pass0 (pa_cons (pv 0) pa_nil)) pe_int) pe_int (nomark _))))
      (pss_cons (ps_set (i := 8) sc__law_shows_behind.nd rfl (.inl rfl) (pe_call G__law_runs (hr.mono (by decide)) (by rfl) g__law_runs F__law_runs.kp b__law_runs .nil pass0 (pa_cons (pv 0) (pa_cons (pv 5) pa_nil))))
      (pss_cons (ps_set (i := 9) sc__law_shows_behind.nd rfl (.inl rfl) (pe_call G__law_given (hr.mono (by decide)) (by rfl) g__law_given F__law_given.kp b__law_given .nil pass0 (pa_cons (pv 1) (pa_cons (pv 2) (pa_cons (pv 8) pa_nil)))))
      (pss_cons (ps_set (i := 10) sc__law_shows_behind.nd rfl (.inl rfl) (pe_lst pa_nil))
      (pss_cons (ps_for PassesOwn.never rfl (pi_zip3 (by rfl) m_zip (pa_cons (pv 8) (pa_cons (pe_call G__law_spots (hr.mono (by decide)) (by rfl) g__law_spots F__law_spots.kp b__law_spots .nil pass0 (pa_cons (pv 9) (pa_cons (pv 6) pa_nil))) (pa_cons (pv 9) pa_nil)))) (pg_tup rfl (pgs_cons (pg_name (i := 11) sc__law_shows_behind.nd rfl (.inl rfl)) (pgs_cons (pg_name (i := 12) sc__law_shows_behind.nd rfl (.inl rfl)) (pgs_cons (pg_name (i := 13) sc__law_shows_behind.nd rfl (.inl rfl)) pgs_nil))))
      (pss_cons (ps_set (i := 14) sc__law_shows_behind.nd rfl (.inl rfl) pe_int)
      (pss_cons (ps_if (PW.pt (pw_and (pt_cmpR op_notN (pv 12) pe_non (nomark _)) (pw_and1 (pt_val (pe_ix (r := rIxL K) ix_list (pv 7) (pv 12) (fun _ _ => rfl)))))) (pss_one (ps_set (i := 14) sc__law_shows_behind.nd rfl (.inl rfl) (pv 13))) pss_nil)
      (pss_one (ps_expr (pe_bm PySem.F.plainAttrs_list PySem.F.slot_list_append PySem.F.type_list_append mt_append (pv 10) (pa_cons (pe_tup (pa_cons (pv 11) (pa_cons (pv 14) pa_nil))) pa_nil)))))))
      (pss_cons (ps_for PassesOwn.never rfl (pi_range1 (by rfl) m_range (pa_cons (pe_op op_mulW (pe_ix (r := rIxL K) ix_list (pe_lst (pa_cons pe_int (pa_cons pe_int (pa_cons pe_int (pa_cons pe_int (pa_cons pe_int (pa_cons pe_int (pa_cons pe_int (pa_cons pe_int pa_nil))))))))) (pv 4) (fun _ _ => rfl)) (pe_callTy call_int1 (by rfl) m_int (by decide +kernel) (pa_cons (pe_cmpR (r := rNeD K) (op_neD hr.units) (pv 10) (pe_lst pa_nil) (nomark _)) pa_nil))) pa_nil)) (pg_name (i := 15) sc__law_shows_behind.nd rfl (.inl rfl))
      (pss_cons (ps_set (i := 16) sc__law_shows_behind.nd rfl (.inl rfl) (pe_op op_mod (pe_call G__law_next (hr.mono (by decide)) (by rfl) g__law_next F__law_next.kp b__law_next .nil pass0 (pa_cons (pv 0) pa_nil)) (pe_callB call_len_seq (by rfl) m_len (by decide +kernel) (pa_cons (pv 10) pa_nil))))
      (pss_cons (ps_set (i := 17) sc__law_shows_behind.nd rfl (.inl rfl) (pe_ix (r := rIxL K) ix_list (pe_lst (pa_cons (pe_callB (call_max2 rfl) (by rfl) m_max (by decide +kernel) (pa_cons pe_int (pa_cons (pe_op op_sub (pv 4) pe_int) pa_nil))) (pa_cons (pe_ix (r := rIxL K) ix_list (pe_lst (pa_cons pe_int (pa_cons pe_int (pa_cons pe_int (pa_cons pe_int pa_nil))))) (pe_op op_mod (pv 15) pe_int) (fun _ _ => rfl)) pa_nil))) (pe_callTy call_int1 (by rfl) m_int (by decide +kernel) (pa_cons (pe_cmpR op_eq (pv 4) pe_int (nomark _)) pa_nil)) (fun _ _ => rfl)))
      (pss_one (ps_asg (pe_tup (pa_cons (pe_ix (r := rIxT K) ix_tup (pe_ix (r := rIxL K) ix_list (pv 10) (pv 16) (fun _ _ => rfl)) pe_int (fun _ _ => rfl)) (pa_cons (pe_ix (r := rIxL K) ix_list (pe_lst (pa_cons (pe_op op_mulW (pe_ix (r := rIxL K) ix_list (pv 9) (pv 16) (fun _ _ => rfl)) (pe_callTy call_int1 (by rfl) m_int (by decide +kernel) (pa_cons (pe_cmpR op_eq (pe_ix (r := rIxT K) ix_tup (pe_ix (r := rIxL K) ix_list (pv 10) (pv 16) (fun _ _ => rfl)) pe_int (fun _ _ => rfl)) pe_int (nomark _)) pa_nil))) (pa_cons (pe_op op_sub pe_int (pe_ix (r := rIxT K) ix_tup (pe_ix (r := rIxL K) ix_list (pv 10) (pv 16) (fun _ _ => rfl)) pe_int (fun _ _ => rfl))) (pa_cons (pe_ix (r := rIxT K) ix_tup (pe_ix (r := rIxL K) ix_list (pv 10) (pv 16) (fun _ _ => rfl)) pe_int (fun _ _ => rfl)) pa_nil)))) (pv 17) (fun _ _ => rfl)) pa_nil))) (pg_sub (pv 10) (pv 16) set_list))))))
      (pss_one (ps_ret (pe_tup (pa_cons (pv 9) (pa_cons (pv 10) pa_nil)))))))))))))), ?_⟩
    refine w_st (σ' := [some (.ref D), some (.ref a), some (.ref t), some (.int (most : Int)), none, none, none, none, none, none, none, none, none, none, none, none, none, none, none]) rfl ?_
    have d0 := Dr.refl hD
    walk_at "ct"
    refine ⟨D, c, rfl, hD, by omega, fun n1 _ _ => ?_⟩
    have d1 := d0.next (c + 1)
    generalize upd H D _ = H1 at *
    walk_at "ct"
    refine w_mod (by decide) fun kd kd0 kd1 => ?_
    obtain ⟨kind, rfl⟩ : ∃ k : Nat, kd = (k : Int) := ⟨kd.toNat, by omega⟩
    walk_at "ct"
    refine ⟨D, c + 1, rfl, d1.2, by omega, fun n2 _ _ => ?_⟩
    have d2 := d1.next (c + 2)
    generalize upd H1 D _ = H2 at *
    walk_at "ct"
    refine w_mod (by omega) fun mn mn0 mn1 => ?_
    obtain ⟨many, rfl⟩ : ∃ k : Nat, mn = (k : Int) := ⟨mn.toNat, by omega⟩
    walk_at "ct"
    refine ⟨D, c + 2, rfl, d2.2, by omega, fun n3 _ _ => ?_⟩
    have d3 := d2.next (c + 3)
    generalize upd H2 D _ = H3 at *
    walk_at "ct"
    refine ⟨len2 rfl, fun g4 ng4 => ?_⟩
    have u4 : Same H3 (upd H3 g4 (.lst [.int 4, .int 12])) := same_upd ng4
    have hg4 : (upd H3 g4 (.lst [.int 4, .int 12])) g4 = some (.lst [.int 4, .int 12]) := upd_same
    generalize upd H3 g4 _ = H4 at *
    have d4 := d3.same u4
    walk_at "ct"
    refine ⟨D, c + 3, rfl, d4.2, by omega, fun n5 _ _ => ?_⟩
    have hg5 := (Dr.step d4.2 (c + 4)).at d4.2 hg4
    have d5 := d4.next (c + 4)
    generalize upd H4 D _ = H5 at *
    walk_at "ct"
    refine w_mod (by decide) fun r r0 r1 => ?_
    obtain ⟨top, htop, t0, t1⟩ : ∃ top : Int, atI [V.int 4, .int 12] r = some (.int top) ∧ 1 ≤ top ∧ top ≤ 50 := by
      have : r = 0 ∨ r = 1 := by omega
      rcases this with rfl | rfl
      · exact ⟨4, at0, by decide, by decide⟩
      · exact ⟨12, at1, by decide, by decide⟩
    refine w_ixL (.of hg5) htop ?_
    refine w_mod (by omega) fun tt tt0 tt1 => ?_
    walk_at "ct"
    obtain ⟨teeth, hteeth, te1, te2⟩ : ∃ k : Nat, 1 + tt = (k : Int) ∧ 1 ≤ k ∧ k ≤ 50 := ⟨(1 + tt).toNat, by omega, by omega, by omega⟩
    rw [hteeth]
    refine w_RG1 (by omega) (by omega) ?_
    rw [show ((teeth : Int)).toNat = teeth by omega]
    refine lb_range (fun D2 k G => Dr D (c + 4 + k) H5 G ∧ ∃ bs : List Bool, G D2 = some (.lst (bs.map V.bl)) ∧ bs.length = k) (fun D2 hD2 => ⟨(Dr.refl d5.2).same (same_upd hD2), [], upd_same, rfl⟩) ?_ ?_
    · rintro D2 hD2 k G hk ⟨dG, bs, hb, bl⟩
      walk_at "ct"
      refine ⟨rfl, ?_⟩
      walk_at "ct"
      refine ⟨D, c + 4 + k, rfl, dG.2, by omega, fun n7 _ _ => ?_⟩
      have st := Dr.step dG.2 (c + 4 + k + 1)
      have dG2 := dG.trans st
      have hb2 := st.at dG.2 hb
      clear st
      generalize upd G D _ = G2 at *
      walk_at "ct"
      refine w_mod (by omega) fun r7 _ _ => ?_
      walk_at "ct"
      refine ⟨bs.map V.bl, hb2, by rw [List.length_map]; exact small1000 (by omega), dG2.put hD2 hb2, bs ++ [decide (r7 = 0)], ?_, by rw [List.length_append, bl]; rfl⟩
      rw [upd_same, List.map_append]
      rfl
    rintro mk hmk G6 ⟨dG, bs, hb, bl⟩
    have d6 := d5.trans dG
    walk_at "ct"
    refine ⟨D, c + 4 + teeth, many, rfl, d6.2, by omega, by omega, fun rl rws c9 H9 d9 c9l nrl hrl hrs hrn => ?_⟩
    have hb9 := d9.at d6.2 hb
    have d09 := d6.trans d9
    have nrl0 := d6.free nrl
    have hT9 : TrainAt K H9 a ps := ⟨ws, .of (d09.at hD ha), d09.all hD hd⟩
    have hS9 := but_tup (drO_ext hD) d09.1 hS
    clear d0 d1 d2 d3 d4 d5 dG d6 d9 u4 hg4 hg5
    walk_at "ct"
    refine ⟨a, t, rl, ps, xs, rws, rfl, hT9, hok, p1, p2, hS9, hso, .of hrl, hrs, by omega, fun wa I1 s1 nwa hwa => ?_⟩
    obtain ⟨cs, hcs⟩ : ∃ cs, cs = (fedS ps xs rws).2 := ⟨_, rfl⟩
    have cl : cs.length = rws.length := by rw [hcs, fedS_len]
    have csg : ∀ x ∈ cs, x = 0 ∨ Sign x := by rw [hcs]; exact fedS_sg fun s hs => .inr (hrs s hs)
    rw [← hcs] at hwa
    walk_at "ct"
    refine ⟨len2 rfl, fun sh nsh1 => ?_⟩
    have u2 : Same I1 (upd I1 sh (.lst [])) := same_upd nsh1
    have hsh : (upd I1 sh (.lst [])) sh = some (.lst []) := upd_same
    generalize upd I1 sh _ = I2 at *
    have nsh : H9 sh = none := s1.free nsh1
    have s2 := s1.trans u2
    have wsh : wa ≠ sh := ne_of_none hwa nsh1
    walk_at "ct"
    refine w_iz3 ?_
    walk_at "ct"
    refine ⟨wa, cs, (teeth : Int), rfl, .of (u2 _ _ hwa), by omega, by omega, fun sp I3 s3 nsp hsp => ?_⟩
    have s03 := s2.trans s3
    have wsp : sp ≠ sh := fun z => by rw [z, hsh] at nsp; cases nsp
    walk_at "ct"
    refine w_IZ3 (.of (s03 _ _ hrl)) (.of hsp) (.of ((u2.trans s3) _ _ hwa)) ?_
    refine fb_zip3 (rws.map V.int) ((List.range cs.length).map (spotV cs (teeth : Int))) (cs.map V.int) (by rw [List.length_map, List.length_map, List.length_range, cl]) (by rw [List.length_map, List.length_map, cl])
      (fun k σ G => ∃ (y11 y12 y13 y14 : Option V) (us : List V) (ts : List (Int × Int)), σ = [some (.ref D), some (.ref a), some (.ref t), some (.int (most : Int)), some (.int (kind : Int)), some (.int (many : Int)), some (.int (teeth : Int)), some (.ref mk), some (.ref rl), some (.ref wa), some (.ref sh), y11, y12, y13, y14, none, none, none, none] ∧ Same H9 G ∧ G sh = some (.lst us) ∧ DpAll K G us (ts.map sh2D) ∧ (∀ s ∈ ts, Sh2Ok s) ∧ ts.map (·.1) = rws.take k ∧ G sp = some (.lst ((List.range cs.length).map (spotV cs (teeth : Int)))) ∧ G wa = some (.lst (cs.map V.int)))
      ⟨none, none, none, none, [], [], rfl, s03, s3 _ _ hsh, .nil, (fun _ z => nomatch z), rfl, hsp, (u2.trans s3) _ _ hwa⟩ ?_ ?_ ?_
    · rintro k σ G _ ⟨y11, y12, y13, y14, us, ts, rfl, sG, _, _, _, _, hsp, hwa⟩
      exact ⟨.of (sG _ _ hrl), .of hsp, .of hwa⟩
    · rintro k x y z Tp σ G hx hy hz ⟨y11, y12, y13, y14, us, ts, rfl, sG, hl, hu, okt, tf, hspG, hwaG⟩ nT
      obtain ⟨w, hw, rfl⟩ : ∃ w : Int, rws[k]? = some w ∧ x = .int w := by
        rw [List.getElem?_map] at hx
        cases e : rws[k]? with
        | none => rw [e] at hx; cases hx
        | some c => rw [e] at hx; exact ⟨c, rfl, (Option.some.inj hx).symm⟩
      obtain ⟨cc, hcc, rfl⟩ : ∃ w : Int, cs[k]? = some w ∧ z = .int w := by
        rw [List.getElem?_map] at hz
        cases e : cs[k]? with
        | none => rw [e] at hz; cases hz
        | some c => rw [e] at hz; exact ⟨c, rfl, (Option.some.inj hz).symm⟩
      have hk : k < rws.length := (List.getElem?_eq_some_iff.mp hw).1
      have ey : y = spotV cs (teeth : Int) k := by
        rw [List.getElem?_map, List.getElem?_range (by omega)] at hy
        exact (Option.some.inj hy).symm
      have sw := hrs w (List.mem_of_getElem? hw)
      have scc := csg cc (List.mem_of_getElem? hcc)
      have tl : ts.length = k := by
        have := congrArg List.length tf
        rw [List.length_map, List.length_take] at this
        omega
      have ul : us.length = k := by rw [dpAll_len hu, List.length_map, tl]
      have sT : Same G (upd G Tp (.tup [.int w, y, .int cc])) := same_upd nT
      have hT : (upd G Tp (.tup [.int w, y, .int cc])) Tp = some (.tup [.int w, y, .int cc]) := upd_same
      generalize upd G Tp _ = G1 at *
      have s1 := sG.trans sT
      have hl1 := sT _ _ hl
      have hmk1 := s1 _ _ hb9
      have fin : ∀ (sv : Int) (g5 : Addr) (G5 : Hp), (sv = 0 ∨ Sign sv) → Same G1 G5 → G5 g5 = some (.tup [.int w, .int sv]) → Same H9 (upd G5 sh (.lst (us ++ [.ref g5]))) ∧ (upd G5 sh (.lst (us ++ [.ref g5]))) sh = some (.lst (us ++ [.ref g5])) ∧ DpAll K (upd G5 sh (.lst (us ++ [.ref g5]))) (us ++ [.ref g5]) ((ts ++ [(w, sv)]).map sh2D) ∧ (∀ s ∈ ts ++ [(w, sv)], Sh2Ok s) ∧ (ts ++ [(w, sv)]).map (·.1) = rws.take (k + 1) ∧ (upd G5 sh (.lst (us ++ [.ref g5]))) sp = some (.lst ((List.range cs.length).map (spotV cs (teeth : Int)))) ∧ (upd G5 sh (.lst (us ++ [.ref g5]))) wa = some (.lst (cs.map V.int)) := fun sv g5 G5 hsv v5 hg5 => by
        refine ⟨same_new (s1.trans v5) nsh, upd_same, ?_, fun s hs => ?_, ?_, ?_, ?_⟩
        · rw [List.map_append]
          exact dpAll_app (sh2s_upd (v5 _ _ hl1) (dpAll_same (sT.trans v5) hu)) (.cons (sh2_upd (v5 _ _ hl1) (sh2_dp (s := (w, sv)) (.of hg5))) .nil)
        · rcases List.mem_append.mp hs with hs | hs
          · exact okt s hs
          · rw [List.mem_singleton.mp hs]
            exact ⟨sw, hsv⟩
        · rw [List.map_append, tf, List.take_add_one, hw]
          rfl
        · rw [upd_ne wsp]
          exact (sT.trans v5) _ _ hspG
        · rw [upd_ne wsh]
          exact (sT.trans v5) _ _ hwaG
      refine w_gtup (.of hT) rfl ?_
      walk_at "ct"
      refine ⟨rfl, ?_⟩
      walk_at "ct"
      by_cases c0 : cc = 0
      · have ey0 : y = .non := by rw [ey]; unfold spotV; rw [hcc, c0, if_pos rfl]
        rw [ey0]
        refine w_iteN (fun z => absurd rfl z) (fun _ => ?_)
        walk_at "ct"
        refine ⟨ty_list hl1, ?_⟩
        walk_at "ct"
        refine ⟨len2 rfl, fun g5 ng5 => ?_⟩
        have F := fin 0 g5 _ (.inl rfl) (same_upd ng5) upd_same
        have h5 := (same_upd (o := .tup [.int w, .int 0]) ng5) _ _ hl1
        walk_at "ct"
        refine w_append h5 (small1000 (by omega)) ?_
        walk_at "ct"
        exact ⟨_, _, _, _, _, _, rfl, F⟩
      · have ey1 : y = .int (toothN cs k % (teeth : Int)) := by rw [ey]; unfold spotV; rw [hcc, if_neg (by simpa using c0)]
        rw [ey1]
        refine w_iteN (fun _ => ?_) (fun z => nomatch z)
        have t0 := Int.emod_nonneg (toothN cs k) (b := (teeth : Int)) (by omega)
        have t1 := Int.emod_lt_of_pos (toothN cs k) (b := (teeth : Int)) (by omega)
        obtain ⟨sp1, hsp1⟩ : ∃ m : Nat, toothN cs k % (teeth : Int) = (m : Int) := ⟨(toothN cs k % (teeth : Int)).toNat, by omega⟩
        obtain ⟨bb, hbb⟩ : ∃ bb, bs[sp1]? = some bb := ⟨_, List.getElem?_eq_getElem (by omega)⟩
        walk_at "ct"
        refine w_ixL (.of hmk1) (v := .bl bb) (at_of (j := sp1) hsp1 (by rw [List.getElem?_map, hbb]; rfl)) ?_
        refine w_bl ?_
        cases bb with
        | true =>
          walk_at "ct"
          refine ⟨ty_list hl1, ?_⟩
          walk_at "ct"
          refine ⟨len2 rfl, fun g5 ng5 => ?_⟩
          have F := fin cc g5 _ scc (same_upd ng5) upd_same
          have h5 := (same_upd (o := .tup [.int w, .int cc]) ng5) _ _ hl1
          walk_at "ct"
          refine w_append h5 (small1000 (by omega)) ?_
          walk_at "ct"
          exact ⟨_, _, _, _, _, _, rfl, F⟩
        | false =>
          walk_at "ct"
          refine ⟨ty_list hl1, ?_⟩
          walk_at "ct"
          refine ⟨len2 rfl, fun g5 ng5 => ?_⟩
          have F := fin 0 g5 _ (.inl rfl) (same_upd ng5) upd_same
          have h5 := (same_upd (o := .tup [.int w, .int 0]) ng5) _ _ hl1
          walk_at "ct"
          refine w_append h5 (small1000 (by omega)) ?_
          walk_at "ct"
          exact ⟨_, _, _, _, _, _, rfl, F⟩
    rintro σ I4 ⟨y11, y12, y13, y14, us, ss, rfl, s4, hl4, hu4, ok4, sf, _, hwa4⟩
    rw [List.length_map, List.take_length] at sf
    have sl : ss.length ≤ many := by
      have := congrArg List.length sf
      rw [List.length_map] at this
      omega
    have dI := d09.same s4
    walk_at "ct"
    refine ⟨len2 rfl, fun g ng => ?_⟩
    have u1 : Same I4 (upd I4 g (.lst [.int 0, .int 1, .int 2, .int 1, .int 1, .int 4, .int 0, .int 0])) := same_upd ng
    have hg : (upd I4 g (.lst [.int 0, .int 1, .int 2, .int 1, .int 1, .int 4, .int 0, .int 0])) g = some (.lst [.int 0, .int 1, .int 2, .int 1, .int 1, .int 4, .int 0, .int 0]) := upd_same
    generalize upd I4 g _ = J1 at *
    obtain ⟨m, hm, m0, m4, mk5⟩ : ∃ m : Int, atI [V.int 0, .int 1, .int 2, .int 1, .int 1, .int 4, .int 0, .int 0] (kind : Int) = some (.int m) ∧ 0 ≤ m ∧ m ≤ 4 ∧ (0 < m → 1 ≤ kind ∧ kind ≤ 5) := by
      have : kind = 0 ∨ kind = 1 ∨ kind = 2 ∨ kind = 3 ∨ kind = 4 ∨ kind = 5 ∨ kind = 6 ∨ kind = 7 := by omega
      rcases this with rfl | rfl | rfl | rfl | rfl | rfl | rfl | rfl
      · exact ⟨0, rfl, by decide, by decide, by decide⟩
      · exact ⟨1, rfl, by decide, by decide, by decide⟩
      · exact ⟨2, rfl, by decide, by decide, by decide⟩
      · exact ⟨1, rfl, by decide, by decide, by decide⟩
      · exact ⟨1, rfl, by decide, by decide, by decide⟩
      · exact ⟨4, rfl, by decide, by decide, by decide⟩
      · exact ⟨0, rfl, by decide, by decide, by decide⟩
      · exact ⟨0, rfl, by decide, by decide, by decide⟩
    walk_at "ct"
    refine w_ixL (.of hg) hm ?_
    walk_at "ct"
    refine ⟨len2 rfl, fun g2 ng2 => ?_⟩
    have u2 : Same J1 (upd J1 g2 (.lst [])) := same_upd ng2
    have hg2 : (upd J1 g2 (.lst [])) g2 = some (.lst []) := upd_same
    generalize upd J1 g2 _ = J2 at *
    have u12 := u1.trans u2
    refine ⟨.list (ss.map sh2D), .list [], .lst (.of (u12 _ _ hl4)) (dpAll_same u12 hu4), .lst (.of hg2) .nil, shaped_of (lay_sh2s ss) (by decide), shaped_of (lay_sh2s []) (by decide), ?_⟩
    refine .inr ⟨_, rfl, ?_⟩
    obtain ⟨n, hn, n4, nn⟩ : ∃ n : Nat, m * (if (!PyData.eqv (.list (ss.map sh2D)) (.list [])) = true then 1 else 0) = (n : Int) ∧ n ≤ 4 ∧ (0 < n → 0 < ss.length ∧ 0 < m) := by
      cases ss with
      | nil => exact ⟨0, by rw [show PyData.eqv (.list (List.map sh2D [])) (.list []) = true from rfl]; exact Int.mul_zero m, by decide, fun z => absurd z (by decide)⟩
      | cons a r => exact ⟨m.toNat, by rw [show PyData.eqv (.list (List.map sh2D (a :: r))) (.list []) = false from rfl]; show m * 1 = _; rw [Int.mul_one]; omega, by omega, fun z => ⟨Nat.succ_pos _, by omega⟩⟩
    refine w_rIv (.int (n : Int)) (wide_mul (a := 10) (b := 10) (by omega) (by split <;> decide) (by decide) (by decide) (by decide)) (congrArg V.int hn) ?_
    walk_at "ct"
    refine w_RG1 (by omega) (by omega) ?_
    rw [show ((n : Int)).toNat = n by omega]
    have nshH : H sh = none := d09.free nsh
    have nwaH : H wa = none := d09.free nwa
    refine fb_range (fun i σ G => ∃ (y11 y12 y13 y14 y15 y16 y17 : Option V) (zs : List V) (ts : List (Int × Int)), σ = [some (.ref D), some (.ref a), some (.ref t), some (.int (most : Int)), some (.int (kind : Int)), some (.int (many : Int)), some (.int (teeth : Int)), some (.ref mk), some (.ref rl), some (.ref wa), some (.ref sh), y11, y12, y13, y14, y15, y16, y17, none] ∧ Dr D (c9 + i) H G ∧ G sh = some (.lst zs) ∧ DpAll K G zs (ts.map sh2D) ∧ (∀ s ∈ ts, Sh2Ok s) ∧ ts.map (·.1) = rws ∧ G wa = some (.lst (cs.map V.int)))
      ⟨_, _, _, _, none, none, none, us, ss, rfl, dI.same u12, u12 _ _ hl4, dpAll_same u12 hu4, ok4, sf, u12 _ _ hwa4⟩ ?_ ?_
    · rintro i σ G hi ⟨y11, y12, y13, y14, y15, y16, y17, zs, ts, rfl, dr1, hz, hzd, okt, tf, hwaG⟩
      have tl : ts.length = ss.length := by
        have h1 := congrArg List.length tf
        have h2 := congrArg List.length sf
        rw [List.length_map] at h1 h2
        omega
      have rl1 : rws.length = ss.length := by
        have h2 := congrArg List.length sf
        rw [List.length_map] at h2
        omega
      have zl : zs.length = ts.length := by rw [dpAll_len hzd, List.length_map]
      obtain ⟨pos, mp⟩ := nn (by omega)
      obtain ⟨k1, k5⟩ := mk5 mp
      rw [Int.zero_add (i : Int)]
      walk_at "ct"
      refine ⟨D, c9 + i, rfl, dr1.2, by omega, fun n1 _ _ => ?_⟩
      have st := Dr.step dr1.2 (c9 + i + 1)
      have dr2 := dr1.trans st
      have hz2 := st.at dr1.2 hz
      have hzd2 := st.all dr1.2 hzd
      have hwa2 := st.at dr1.2 hwaG
      clear st
      generalize upd G D _ = G2 at *
      walk_at "ct"
      refine ⟨sh, zs, rfl, .inl (.of hz2), ?_⟩
      refine w_mod (by omega) fun r r0 r1 => ?_
      obtain ⟨k, rfl⟩ : ∃ k : Nat, r = (k : Int) := ⟨r.toNat, by omega⟩
      obtain ⟨z, hzk⟩ : ∃ z, ts[k]? = some z := ⟨_, List.getElem?_eq_getElem (by omega)⟩
      obtain ⟨v5, hv5, hd5⟩ := dpAll_get hzd2 (i := k) (d := sh2D z) (by rw [List.getElem?_map, hzk]; rfl)
      obtain ⟨g5, rfl, hg5⟩ := sh2_inv hd5
      obtain ⟨sw, _⟩ := okt z (List.mem_of_getElem? hzk)
      obtain ⟨cc, hcc⟩ : ∃ cc, cs[k]? = some cc := ⟨_, List.getElem?_eq_getElem (by omega)⟩
      have scc := csg cc (List.mem_of_getElem? hcc)
      walk_at "ct"
      refine ⟨0, (kind : Int) - 2, rfl, ?_⟩
      walk_at "ct"
      refine ⟨len2 rfl, fun b1 nb1 => ?_⟩
      have v1 : Same G2 (upd G2 b1 (.lst [.int 0, .int 0, .int 1, .int 2])) := same_upd nb1
      have hb1 : (upd G2 b1 (.lst [.int 0, .int 0, .int 1, .int 2])) b1 = some (.lst [.int 0, .int 0, .int 1, .int 2]) := upd_same
      generalize upd G2 b1 _ = G3 at *
      walk_at "ct"
      refine w_mod (by decide) fun r4 r40 r41 => ?_
      obtain ⟨pk, hpk, pk0, pk2⟩ : ∃ pk : Int, atI [V.int 0, .int 0, .int 1, .int 2] r4 = some (.int pk) ∧ 0 ≤ pk ∧ pk ≤ 2 := by
        have : r4 = 0 ∨ r4 = 1 ∨ r4 = 2 ∨ r4 = 3 := by omega
        rcases this with rfl | rfl | rfl | rfl
        · exact ⟨0, rfl, by decide, by decide⟩
        · exact ⟨0, rfl, by decide, by decide⟩
        · exact ⟨1, rfl, by decide, by decide⟩
        · exact ⟨2, rfl, by decide, by decide⟩
      refine w_ixL (.of hb1) hpk ?_
      walk_at "ct"
      obtain ⟨mxk, hmxk⟩ : ∃ mxk : Int, (if (kind : Int) - 2 > 0 then (kind : Int) - 2 else 0) = mxk := ⟨_, rfl⟩
      have mxb : 0 ≤ mxk ∧ (kind ≠ 5 → mxk ≤ 2) := by rw [← hmxk]; split <;> omega
      rw [hmxk]
      refine ⟨len2 rfl, fun b2 nb2 => ?_⟩
      have v2 : Same G3 (upd G3 b2 (.lst [.int mxk, .int pk])) := same_upd nb2
      have hb2 : (upd G3 b2 (.lst [.int mxk, .int pk])) b2 = some (.lst [.int mxk, .int pk]) := upd_same
      generalize upd G3 b2 _ = G4 at *
      walk_at "ct"
      refine .inr ⟨_, rfl, ?_⟩
      obtain ⟨pick, hpick, pi0, pi2⟩ : ∃ pick : Int, atI [V.int mxk, .int pk] (if decide ((kind : Int) = 5) = true then 1 else 0) = some (.int pick) ∧ 0 ≤ pick ∧ pick ≤ 2 := by
        by_cases e : (kind : Int) = 5
        · rw [decide_eq_true e, if_pos rfl]
          exact ⟨pk, at1, pk0, pk2⟩
        · rw [decide_eq_false e, if_neg Bool.false_ne_true]
          exact ⟨mxk, at0, mxb.1, mxb.2 (by omega)⟩
      refine w_ixL (.of hb2) hpick ?_
      have v12 := v1.trans v2
      have hz4 := v12 _ _ hz2
      have hg54 := Same.tup v12 hg5
      walk_at "ct"
      refine w_ixL (.of hz4) (at_of (j := k) rfl hv5) ?_
      walk_at "ct"
      refine w_ixL (.of (v12 _ _ hwa2)) (at_of (j := k) rfl (by rw [List.getElem?_map, hcc]; rfl)) ?_
      walk_at "ct"
      refine w_ixL (.of hz4) (at_of (j := k) rfl hv5) ?_
      walk_at "ct"
      refine .inr ⟨_, rfl, ?_⟩
      obtain ⟨e1, he1, ok1⟩ : ∃ e1 : Int, cc * (if decide (z.2 = 0) = true then 1 else 0) = e1 ∧ (e1 = 0 ∨ Sign e1) := by
        by_cases e : z.2 = 0
        · exact ⟨cc, by rw [decide_eq_true e, if_pos rfl, Int.mul_one], scc⟩
        · exact ⟨0, by rw [decide_eq_false e, if_neg Bool.false_ne_true, Int.mul_zero], .inl rfl⟩
      have b1 : cc.natAbs < 2 ^ 10 := by
        rcases scc with e | e | e <;> rw [e] <;> decide
      refine w_rIv (.int e1) (wide_mul (a := 10) (b := 10) b1 (by split <;> decide) (by decide) (by decide) (by decide)) (congrArg V.int he1) ?_
      walk_at "ct"
      refine w_ixL (.of hz4) (at_of (j := k) rfl hv5) ?_
      walk_at "ct"
      refine w_ixL (.of hz4) (at_of (j := k) rfl hv5) ?_
      walk_at "ct"
      refine ⟨len2 rfl, fun g6 ng6 => ?_⟩
      have v6 : Same G4 (upd G4 g6 (.lst [.int e1, .int (0 - z.1), .int z.1])) := same_upd ng6
      have hg6 : (upd G4 g6 (.lst [.int e1, .int (0 - z.1), .int z.1])) g6 = some (.lst [.int e1, .int (0 - z.1), .int z.1]) := upd_same
      generalize upd G4 g6 _ = G5 at *
      obtain ⟨nw, hnw, oknw⟩ : ∃ nw : Int, atI [V.int e1, .int (0 - z.1), .int z.1] pick = some (.int nw) ∧ (nw = 0 ∨ Sign nw) := by
        have : pick = 0 ∨ pick = 1 ∨ pick = 2 := by omega
        rcases this with rfl | rfl | rfl
        · exact ⟨e1, rfl, ok1⟩
        · refine ⟨0 - z.1, rfl, .inr ?_⟩
          rcases sw with e | e
          · rw [e]; exact .inr rfl
          · rw [e]; exact .inl rfl
        · exact ⟨z.1, rfl, .inr sw⟩
      walk_at "ct"
      refine w_ixL (.of hg6) hnw ?_
      walk_at "ct"
      refine ⟨len2 rfl, fun g7 ng7 => ?_⟩
      have v7 : Same G5 (upd G5 g7 (.tup [.int z.1, .int nw])) := same_upd ng7
      have hg7 : (upd G5 g7 (.tup [.int z.1, .int nw])) g7 = some (.tup [.int z.1, .int nw]) := upd_same
      generalize upd G5 g7 _ = G6 at *
      have v17 := (v12.trans v6).trans v7
      have hz6 := v17 _ _ hz2
      walk_at "ct"
      refine w_setL hz6 (ix_at (j := k) rfl (by omega)) ?_
      refine ⟨_, _, _, _, _, _, _, zs.set k (.ref g7), ts.set k (z.1, nw), rfl, (dr2.same v17).put nshH hz6, upd_same, ?_, fun y hy => ?_, ?_, by rw [upd_ne wsh]; exact v17 _ _ hwa2⟩
      · rw [List.map_set]
        exact dpAll_set (sh2s_upd hz6 (dpAll_same v17 hzd2)) (sh2_upd hz6 (sh2_dp (s := (z.1, nw)) (.of hg7)))
      · rcases List.mem_or_eq_of_mem_set hy with hy | hy
        · exact okt y hy
        · rw [hy]
          exact ⟨sw, oknw⟩
      · rw [List.map_set, tf]
        refine List.ext_getElem? fun i2 => ?_
        rw [List.getElem?_set]
        by_cases e : k = i2
        · subst e
          rw [if_pos rfl]
          have : rws[k]? = some z.1 := by rw [← tf, List.getElem?_map, hzk]; rfl
          rw [this, if_pos (List.getElem?_eq_some_iff.mp this).1]
        · rw [if_neg e]
    · rintro σ G ⟨y11, y12, y13, y14, y15, y16, y17, zs, ts, rfl, dr1, hz, hzd, okt, tf, hwaG⟩
      have tl : ts.length ≤ many := by
        have h1 := congrArg List.length tf
        have h2 := congrArg List.length sf
        rw [List.length_map] at h1 h2
        omega
      walk_at "ct"
      refine ⟨len2 rfl, fun gg ngg => ?_⟩
      have u := same_upd (o := .tup [.ref wa, .ref sh]) ngg
      refine q gg wa sh zs ts _ _ (dr1.same u) (by omega) upd_same nwaH nshH (u _ _ (by rw [tf, ← hcs]; exact hwaG)) (u _ _ hz) (dpAll_same u hzd) okt (by omega)
abbrev S__law_unlike : Stmt := topS 52
theorem sc__law_unlike : FnScope ["_law_spots_here", "_law_shows", "_law_known", "_law_spot", "_law_show"] ["_law_spots_here", "_law_shows"] (defScope S__law_unlike) := ⟨rfl, rfl, rfl, by decide +kernel, rfl, by decide +kernel, by decide +kernel⟩
def sp__law_unlike (K : PySem.W.Frag) : Sp := fun vs H Q _ => ∃ (a b : Addr) (cs : List Int) (t : Int) (ws : List V) (ss : List (Int × Int)), vs = [.ref a, .ref b] ∧ SqL K H a ((List.range cs.length).map (spotV cs t)) ∧ SqL K H b ws ∧ DpAll K H ws (ss.map sh2D) ∧ cs.length = ss.length ∧ ss.length ≤ 1000 ∧
  ∀ H', Same H H' → Q (.bl (!freeB (passN cs ss ss.length) t)) H'
theorem ok__law_unlike {f : Addr} {fd : FuncData} (F : Fun K "_law_unlike" "_law_unlike" S__law_unlike f fd) (m_zip : mg "zip" = none) :
    FnOk P w K mg base CX0 1 f fd ["_law_spots_here", "_law_shows"] (sp__law_unlike K) := by
  refine F.ok sc__law_unlike (fun vs H Q E h => ?_) (fun cdv A outer s H vs Q E hr h => ?_)
  ·
    obtain ⟨a, b, cs, t, ws, ss, rfl, _⟩ := h
    rfl
  ·
    obtain ⟨a, b, cs, t, ws, ss, rfl, ha, hb, hd, cl, sl, q⟩ := h
    refine ⟨_, (pss_cons (ps_set (i := 2) sc__law_unlike.nd rfl (.inl rfl) pe_dnewK)
      (pss_cons (ps_for PassesOwn.never rfl (pi_zip (by rfl) m_zip (pa_cons (pv 0) (pa_cons (pv 1) pa_nil))) (pg_tup rfl (pgs_cons (pg_name (i := 3) sc__law_unlike.nd rfl (.inl rfl)) (pgs_cons (pg_name (i := 4) sc__law_unlike.nd rfl (.inl rfl)) pgs_nil)))
      (pss_one (ps_if (PW.pt (pw_and (pt_cmpR op_notN (pv 3) pe_non (nomark _)) (pw_and1 (pt_cmpR op_ne (pe_bm PySem.F.plainAttrs_dict PySem.F.slot_dict_setdefault PySem.F.type_dict_setdefault mt_setd (pv 2) (pa_cons (pv 3) (pa_cons (pe_cmpR op_eq (pe_ix (r := rIxT K) ix_tup (pv 4) pe_int (fun _ _ => rfl)) pe_int (nomark _)) pa_nil))) (pe_cmpR op_eq (pe_ix (r := rIxT K) ix_tup (pv 4) pe_int (fun _ _ => rfl)) pe_int (nomark _)) (nomark _))))) (pss_one (ps_ret pe_bl)) pss_nil)))
      (pss_one (ps_ret pe_bl)))), ?_⟩
    refine w_st (σ' := [some (.ref a), some (.ref b), none, none, none]) rfl ?_
    have wl : ws.length = ss.length := by rw [dpAll_len hd, List.length_map]
    obtain ⟨ps, hps⟩ : ∃ ps, ps = passN cs ss ss.length := ⟨_, rfl⟩
    have pl : ps.length = ss.length := by rw [hps]; exact pass_len cl
    rw [← hps] at q
    walk_at "ct"
    intro fd nfd
    have s1 : Same H (upd H fd (.dK [])) := same_upd nfd
    have h1 : (upd H fd (.dK [])) fd = some (.dK []) := upd_same
    generalize upd H fd _ = H1 at *
    walk_at "ct"
    refine w_izip ?_
    walk_at "ct"
    refine w_IZL (s1.seq ha) (s1.seq hb) ?_
    refine fb_zipL ((List.range cs.length).map (spotV cs t)) ws (by rw [List.length_map, List.length_range]; omega) (fun n σ G => ∃ (y3 y4 : Option V) (kvs : List (Key × V)), σ = [some (.ref a), some (.ref b), some (.ref fd), y3, y4] ∧ Same H G ∧ G fd = some (.dK kvs) ∧ kvs.length ≤ n ∧ KeptB ps t n kvs ∧ NoHit ps t n) ⟨none, none, [], rfl, s1, h1, Nat.le_refl _, KeptB.nil ps t, fun _ k _ hk => absurd hk (Nat.not_lt_zero k)⟩ ?_ ?_ ?_
    · rintro n σ G _ ⟨y3, y4, kvs, rfl, sG, _⟩
      exact ⟨sG.seq ha, sG.seq hb⟩
    · rintro n x y Tp σ G hx hy ⟨y3, y4, kvs, rfl, sG, hf, kl, kept, nh⟩ nT
      have hn : n < ws.length := (List.getElem?_eq_some_iff.mp hy).1
      obtain ⟨c, hc⟩ : ∃ c, cs[n]? = some c := ⟨_, List.getElem?_eq_getElem (by omega)⟩
      obtain ⟨z, hz⟩ : ∃ z, ss[n]? = some z := ⟨_, List.getElem?_eq_getElem (by omega)⟩
      obtain ⟨v', hv1, hd1⟩ := dpAll_get hd (i := n) (d := sh2D z) (by rw [List.getElem?_map, hz]; rfl)
      cases Option.some.inj (hy.symm.trans hv1)
      have ex : x = spotV cs t n := by
        rw [List.getElem?_map, List.getElem?_range (by omega)] at hx
        exact (Option.some.inj hx).symm
      have hp : ps[n]? = some (c, toothN cs n, z.2) := by rw [hps]; exact pass_at cl hc hz
      have sT : Same G (upd G Tp (.tup [x, y])) := same_upd nT
      have hT : (upd G Tp (.tup [x, y])) Tp = some (.tup [x, y]) := upd_same
      generalize upd G Tp _ = G1 at *
      have s3 := sG.trans sT
      have hf3 := sT _ _ hf
      obtain ⟨g, rfl, hg⟩ := sh2_inv (dp_same s3 hd1)
      refine w_gtup (.of hT) rfl ?_
      walk_at "ct"
      refine ⟨rfl, ?_⟩
      by_cases c0 : c = 0
      · have ex0 : x = .non := by rw [ex]; unfold spotV; rw [hc, c0, if_pos rfl]
        subst ex0
        walk_at "ct"
        refine w_iteN (fun z => absurd rfl z) (fun _ => ?_)
        walk_at "ct"
        exact ⟨_, _, kvs, rfl, s3, hf3, by omega, kept.skip hp c0, nh.more fun j _ ⟨p1, q1, _, e2, _, e4⟩ => by
          cases Option.some.inj (hp.symm.trans e2)
          exact (unlk_came e4).2.1 c0⟩
      · have ex1 : x = .int (toothN cs n % t) := by rw [ex]; unfold spotV; rw [hc, if_neg (by simpa using c0)]
        rw [ex1]
        walk_at "ct"
        refine w_iteN (fun _ => ?_) (fun z => nomatch z)
        walk_at "ct"
        refine ⟨.inr (.inr (.inl ⟨rfl, .inl ⟨kvs, hf3⟩⟩)), ?_⟩
        walk_at "ct"
        refine ⟨fd, kvs, Sum.inl (toothN cs n % t), .bl (decide (z.2 = 0)), rfl, rfl, hf3, Nat.lt_of_le_of_lt (show kvs.length ≤ 1000 by omega) (by decide), fun u hu => ?_, fun hnone => ?_⟩
        · obtain ⟨b0, rfl, like, unlike⟩ := kept.there hp c0 hu
          walk_at "ct"
          refine ⟨rfl, ?_⟩
          refine w_bl ?_
          by_cases eq : b0 = decide (z.2 = 0)
          · obtain ⟨k1, n1⟩ := like eq
            rw [eq]
            refine w_iteN (fun z => absurd rfl z) (fun _ => ?_)
            walk_at "ct"
            exact ⟨_, _, kvs, rfl, s3, hf3, by omega, k1, n1 nh⟩
          · obtain ⟨j, jn, hit⟩ := unlike eq
            refine w_iteN (fun _ => ?_) (fun z => absurd (V.bl.inj z) eq)
            walk_at "ct"
            have : freeB ps t = false := by
              cases e : freeB ps t with
              | false => rfl
              | true => exact absurd hit (freeB_iff.mp e j n jn hit.lt)
            rw [this] at q
            exact q G1 s3
        · obtain ⟨k1, n1⟩ := kept.new hp c0 hnone
          have s4 : Same H (upd G1 fd (.dK (putK kvs (Sum.inl (toothN cs n % t)) (.bl (decide (z.2 = 0)))))) := same_new s3 nfd
          have h4 : (upd G1 fd (.dK (putK kvs (Sum.inl (toothN cs n % t)) (.bl (decide (z.2 = 0)))))) fd = some (.dK (putK kvs (Sum.inl (toothN cs n % t)) (.bl (decide (z.2 = 0))))) := upd_same
          generalize upd G1 fd _ = G4 at *
          obtain ⟨g', eg, hg'⟩ := sh2_inv (dp_same s4 hd1)
          cases eg
          walk_at "ct"
          refine ⟨rfl, ?_⟩
          refine w_bl ?_
          refine w_iteN (fun z => absurd rfl z) (fun _ => ?_)
          walk_at "ct"
          exact ⟨_, _, _, rfl, s4, h4, Nat.le_trans (length_putK _ _ _) (by omega), k1, n1 nh⟩
    · rintro σ G ⟨y3, y4, kvs, rfl, sG, hf, kl, kept, nh⟩
      rw [List.length_map, List.length_range, cl, ← pl] at nh
      walk_at "ct"
      rw [freeB_iff.mpr nh] at q
      exact q G sG
abbrev S__law_wrong : Stmt := topS 53
theorem sc__law_wrong : FnScope ["_law_ways", "_law_shows", "_law_k", "_law_show"] ["_law_ways", "_law_shows"] (defScope S__law_wrong) := ⟨rfl, rfl, rfl, by decide +kernel, rfl, by decide +kernel, by decide +kernel⟩
def sp__law_wrong (K : PySem.W.Frag) : Sp := fun vs H Q _ => ∃ (a b : Addr) (cs : List Int) (ws : List V) (ss : List (Int × Int)), vs = [.ref a, .ref b] ∧ SqL K H a (cs.map V.int) ∧ SqL K H b ws ∧ DpAll K H ws (ss.map sh2D) ∧ cs.length = ss.length ∧ ss.length ≤ 1000 ∧
  ∀ l H', Same H H' → H l = none → H' l = some (.lst ((wrongs (passN cs ss ss.length) ss.length).map V.int)) → Q (.ref l) H'
theorem ok__law_wrong {f : Addr} {fd : FuncData} (F : Fun K "_law_wrong" "_law_wrong" S__law_wrong f fd) (m_enumerate : mg "enumerate" = none) :
    FnOk P w K mg base CX0 1 f fd ["_law_ways", "_law_shows"] (sp__law_wrong K) := by
  refine F.ok sc__law_wrong (fun vs H Q E h => ?_) (fun cdv A outer s H vs Q E hr h => ?_)
  ·
    obtain ⟨a, b, cs, ws, ss, rfl, _⟩ := h
    rfl
  ·
    obtain ⟨a, b, cs, ws, ss, rfl, ha, hb, hd, cl, sl, q⟩ := h
    refine ⟨_, (pss_one (ps_ret (pe_lc (own := [("_law_k", 2), ("_law_show", 3)]) (g := gTup K 2 (gCons (gName 2) (gCons (gName 3) gNil)))  rfl sc__law_wrong.nd  (pi_enum (by rfl) m_enumerate (pa_cons (pv 1) pa_nil)) (blkOk_by (own := [("_law_k", 2), ("_law_show", 3)]) (N := ["_law_ways", "_law_shows", "_law_k", "_law_show"]) (sc := defScope S__law_wrong) (by decide +kernel)) (fun _ _ _ _ _ => pg_tup rfl (pgs_cons (pg_name (i := 2) sc__law_wrong.nd rfl (Or.inl rfl)) (pgs_cons (pg_name (i := 3) sc__law_wrong.nd rfl (Or.inl rfl)) pgs_nil))) (fun _ _ _ _ _ => (pts_one (PW.pt (pw_and (pt_cmpR op_ne (pe_ix (r := rIxT K) ix_tup (pv 3) pe_int (fun _ _ => rfl)) pe_int (nomark _)) (pw_and1 (pt_cmpR op_ne (pe_ix (r := rIxT K) ix_tup (pv 3) pe_int (fun _ _ => rfl)) (pe_ix (r := rIxL K) ix_list (pv 0) (pv 2) (fun _ _ => rfl)) (nomark _))))))) (fun _ _ _ _ _ => (pv 2))))), ?_⟩
    refine w_st (σ' := [some (.ref a), some (.ref b), none, none]) rfl ?_
    have wl : ws.length = ss.length := by rw [dpAll_len hd, List.length_map]
    obtain ⟨ps, hps⟩ : ∃ ps, ps = passN cs ss ss.length := ⟨_, rfl⟩
    rw [← hps] at q
    walk_at "ct"
    refine w_IE hb ?_
    refine lb_enum ws (fun D n G => Same H G ∧ G D = some (.lst ((wrongs ps n).map V.int))) (fun D hD => ⟨same_upd hD, upd_same⟩) (fun D hD n G _ h => h.1.seq hb) ?_ ?_
    · rintro D hD n y Tp G hy ⟨sG, hG⟩ nT
      have hn : n < ws.length := (List.getElem?_eq_some_iff.mp hy).1
      obtain ⟨c, hc⟩ : ∃ c, cs[n]? = some c := ⟨_, List.getElem?_eq_getElem (by omega)⟩
      obtain ⟨z, hz⟩ : ∃ z, ss[n]? = some z := ⟨_, List.getElem?_eq_getElem (by omega)⟩
      obtain ⟨v', hv1, hd1⟩ := dpAll_get hd (i := n) (d := sh2D z) (by rw [List.getElem?_map, hz]; rfl)
      cases Option.some.inj (hy.symm.trans hv1)
      have hp : ps[n]? = some (c, toothN cs n, z.2) := by rw [hps]; exact pass_at cl hc hz
      have wsu := wrongs_succ hp
      have small : ((wrongs ps n).map V.int).length < sizeLine := by
        have := wrongs_len ps n
        rw [List.length_map]
        exact small1000 (by omega)
      have sT : Same G (upd G Tp (.tup [.int (n : Nat), y])) := same_upd nT
      have hT : (upd G Tp (.tup [.int (n : Nat), y])) Tp = some (.tup [.int (n : Nat), y]) := upd_same
      generalize upd G Tp _ = G1 at *
      have s3 := sG.trans sT
      have hG3 := sT _ _ hG
      obtain ⟨g, rfl, hg⟩ := sh2_inv (dp_same s3 hd1)
      refine w_gtup (.of hT) rfl ?_
      walk_at "ct"
      refine ⟨rfl, ?_⟩
      walk_at "ct"
      refine w_iteN (fun e => ?_) (fun e => ?_)
      · walk_at "ct"
        refine w_ixL (s3.seq ha) (at_of (j := n) rfl (by rw [List.getElem?_map, hc]; rfl)) ?_
        walk_at "ct"
        refine w_iteN (fun e2 => ?_) (fun e2 => ?_)
        · walk_at "ct"
          refine ⟨_, hG3, small, same_new s3 hD, ?_⟩
          rw [upd_same, wsu, if_pos (by unfold wrongB; rw [decide_eq_false e2, decide_eq_false e]; rfl), List.map_append]
          rfl
        · refine ⟨s3, ?_⟩
          rw [wsu, if_neg (by unfold wrongB; rw [decide_eq_true e2]; exact Bool.false_ne_true), List.append_nil]
          exact hG3
      · refine ⟨s3, ?_⟩
        rw [wsu, if_neg (by unfold wrongB; rw [decide_eq_true e, Bool.or_true]; exact Bool.false_ne_true), List.append_nil]
        exact hG3
    · rintro D hD G ⟨sG, hG⟩
      rw [wl] at hG
      exact q D G sG hD hG
abbrev S__law_due : Stmt := topS 54
theorem sc__law_due : FnScope ["_law_ways", "_law_shows", "_law_wrong_here", "_law_teeth", "_law_spots_here", "_law_k", "_law_show"] ["_law_ways", "_law_shows"] (defScope S__law_due) := ⟨rfl, rfl, rfl, by decide +kernel, rfl, by decide +kernel, by decide +kernel⟩
def sp__law_due (K : PySem.W.Frag) : Sp := fun vs H Q _ => ∃ (a b : Addr) (cs : List Int) (ws : List V) (ss : List (Int × Int)), vs = [.ref a, .ref b] ∧ SqL K H a (cs.map V.int) ∧ SqL K H b ws ∧ DpAll K H ws (ss.map sh2D) ∧ cs.length = ss.length ∧ ss.length ≤ 1000 ∧ Walky (passN cs ss ss.length) ∧
  ∀ g H', Same H H' → DueOk K (passN cs ss ss.length) H' g → Q (.ref g) H'
theorem ok__law_due {f : Addr} {fd : FuncData} {f__law_spots : Addr} {fd__law_spots : FuncData} {f__law_unlike : Addr} {fd__law_unlike : FuncData} {f__law_wrong : Addr} {fd__law_wrong : FuncData} (F : Fun K "_law_due" "_law_due" S__law_due f fd)
    (F__law_spots : Fun K "_law_spots" "_law_spots" S__law_spots f__law_spots fd__law_spots) (b__law_spots : Binds K fd__law_spots ["_law_ways", "_law_teeth"] []) (g__law_spots : mg "_law_spots" = some (.ref f__law_spots)) (G__law_spots : FnOk P w K mg base CX0 1 f__law_spots fd__law_spots ["_law_ways", "_law_teeth"] (sp__law_spots K))
    (F__law_unlike : Fun K "_law_unlike" "_law_unlike" S__law_unlike f__law_unlike fd__law_unlike) (b__law_unlike : Binds K fd__law_unlike ["_law_spots_here", "_law_shows"] []) (g__law_unlike : mg "_law_unlike" = some (.ref f__law_unlike)) (G__law_unlike : FnOk P w K mg base CX0 1 f__law_unlike fd__law_unlike ["_law_spots_here", "_law_shows"] (sp__law_unlike K))
    (F__law_wrong : Fun K "_law_wrong" "_law_wrong" S__law_wrong f__law_wrong fd__law_wrong) (b__law_wrong : Binds K fd__law_wrong ["_law_ways", "_law_shows"] []) (g__law_wrong : mg "_law_wrong" = some (.ref f__law_wrong)) (G__law_wrong : FnOk P w K mg base CX0 1 f__law_wrong fd__law_wrong ["_law_ways", "_law_shows"] (sp__law_wrong K)) (m_tuple : mg "tuple" = none) (m_sorted : mg "sorted" = none) (m_len : mg "len" = none) (m_set : mg "set" = none) (m_enumerate : mg "enumerate" = none) :
    FnOk P w K mg base CX0 2 f fd ["_law_ways", "_law_shows"] (sp__law_due K) := by
  refine F.ok sc__law_due (fun vs H Q E h => ?_) (fun cdv A outer s H vs Q E hr h => ?_)
  ·
    obtain ⟨a, b, cs, ws, ss, rfl, _⟩ := h
    rfl
  ·
    obtain ⟨a, b, cs, ws, ss, rfl, ha, hb, hd, cl, sl, wk, q⟩ := h
    refine ⟨_, (pss_cons (ps_set (i := 2) sc__law_due.nd rfl (.inl rfl) (pe_call G__law_wrong (hr.mono (by decide)) (by rfl) g__law_wrong F__law_wrong.kp b__law_wrong .nil pass0 (pa_cons (pv 0) (pa_cons (pv 1) pa_nil))))
      (pss_cons (ps_if (pt_cmpR (r := rNeD K) (op_neD hr.units) (pv 2) (pe_lst pa_nil) (nomark _)) (pss_one (ps_ret (pe_tup (pa_cons pe_str (pa_cons (pe_ix (r := rIxL K) ix_list (pv 2) pe_int (fun _ _ => rfl)) pa_nil))))) pss_nil)
      (pss_cons (ps_if (pt_val (pe_call G__law_unlike (hr.mono (by decide)) (by rfl) g__law_unlike F__law_unlike.kp b__law_unlike .nil pass0 (pa_cons (pe_call G__law_spots (hr.mono (by decide)) (by rfl) g__law_spots F__law_spots.kp b__law_spots .nil pass0 (pa_cons (pv 0) (pa_cons (pe_op op_add (pe_callB call_len_seq (by rfl) m_len (by decide +kernel) (pa_cons (pv 1) pa_nil)) pe_int) pa_nil))) (pa_cons (pv 1) pa_nil)))) (pss_one (ps_ret (pe_tup (pa_cons pe_str (pa_cons pe_non pa_nil))))) pss_nil)
      (pss_cons (ps_set (i := 3) sc__law_due.nd rfl (.inl rfl) pe_int)
      (pss_cons (ps_while PassesOwn.never (pt_val (pe_call G__law_unlike (hr.mono (by decide)) (by rfl) g__law_unlike F__law_unlike.kp b__law_unlike .nil pass0 (pa_cons (pe_call G__law_spots (hr.mono (by decide)) (by rfl) g__law_spots F__law_spots.kp b__law_spots .nil pass0 (pa_cons (pv 0) (pa_cons (pv 3) pa_nil))) (pa_cons (pv 1) pa_nil)))) (pss_one (ps_set (i := 3) sc__law_due.nd rfl (.inl rfl) (pe_op op_add (pv 3) pe_int))))
      (pss_cons (ps_set (i := 4) sc__law_due.nd rfl (.inr rfl) (pe_call G__law_spots (hr.mono (by decide)) (by rfl) g__law_spots F__law_spots.kp b__law_spots .nil pass0 (pa_cons (pv 0) (pa_cons (pv 3) pa_nil))))
      (pss_one (ps_ret (pe_tup (pa_cons pe_str (pa_cons (pv 3) (pa_cons (pe_callTy call_tuple_of (by rfl) m_tuple (by decide +kernel) (pa_cons (pe_callB (r := rSrtI w) (cr_srtI rfl) (by rfl) m_sorted (by decide +kernel) (pa_cons (pe_callTy (r := rSetI K w) (cr_setI rfl) (by rfl) m_set (by decide +kernel) (pa_cons (pe_lc (own := [("_law_k", 5), ("_law_show", 6)]) (g := gTup K 2 (gCons (gName 5) (gCons (gName 6) gNil)))  rfl sc__law_due.nd  (pi_enum (by rfl) m_enumerate (pa_cons (pv 1) pa_nil)) (blkOk_by (own := [("_law_k", 5), ("_law_show", 6)]) (N := ["_law_ways", "_law_shows", "_law_wrong_here", "_law_teeth", "_law_spots_here", "_law_k", "_law_show"]) (sc := defScope S__law_due) (by decide +kernel)) (fun _ _ _ _ _ => pg_tup rfl (pgs_cons (pg_name (i := 5) sc__law_due.nd rfl (Or.inl rfl)) (pgs_cons (pg_name (i := 6) sc__law_due.nd rfl (Or.inl rfl)) pgs_nil))) (fun _ _ _ _ _ => (pts_one (pt_cmpR op_ne (pe_ix (r := rIxT K) ix_tup (pv 6) pe_int (fun _ _ => rfl)) pe_int (nomark _)))) (fun _ _ _ _ _ => (pe_ix (r := rIxL K) ix_list (pv 4) (pv 5) (fun _ _ => rfl)))) pa_nil)) pa_nil)) pa_nil)) pa_nil)))))))))))), ?_⟩
    refine w_st (σ' := [some (.ref a), some (.ref b), none, none, none, none, none]) rfl ?_
    have wl : ws.length = ss.length := by rw [dpAll_len hd, List.length_map]
    obtain ⟨ps, hps⟩ : ∃ ps, ps = passN cs ss ss.length := ⟨_, rfl⟩
    have pl : ps.length = ss.length := by rw [hps]; exact pass_len cl
    rw [← hps] at q wk
    walk_at "ct"
    refine ⟨a, b, cs, ws, ss, rfl, ha, hb, hd, cl, sl, fun l H1 s1 nl hl => ?_⟩
    rw [← hps] at hl
    walk_at "ct"
    refine ⟨len2 rfl, fun e0 ne0 => ?_⟩
    have u1 : Same H1 (upd H1 e0 (.lst [])) := same_upd ne0
    have he0 : (upd H1 e0 (.lst [])) e0 = some (.lst []) := upd_same
    generalize upd H1 e0 _ = H2 at *
    have s2 := s1.trans u1
    refine ⟨.list ((wrongs ps ss.length).map PyData.int), .list [], .lst (.of (u1 _ _ hl)) (dpAll_ints _), .lst (.of he0) .nil, shaped_of (lay_lst (lay_ints _ 0)) (by decide), shaped_of (lay_lst (lay_ints [] 0)) (by decide), ?_⟩
    refine w_bl ?_
    cases hw : wrongs ps ss.length with
    | cons x r =>
      rw [show (!PyData.eqv (.list (List.map PyData.int (x :: r))) (.list [])) = true from rfl]
      rw [hw] at hl
      walk_at "ct"
      refine w_ixL (.of (u1 _ _ hl)) (v := .int x) at0 ?_
      walk_at "ct"
      refine ⟨len2 rfl, fun g ng => ?_⟩
      refine q g _ (s2.trans (same_upd ng)) (.inl ?_)
      obtain ⟨k, p, rfl, hp, wr, first⟩ := wrongs_first hw
      exact ⟨k, p, upd_same, hp, wr, first⟩
    | nil =>
      have nw : ∀ p ∈ ps, wrongB p = false := wrongs_nil (by rw [pl]; exact hw)
      rw [show (!PyData.eqv (.list (List.map PyData.int [])) (.list [])) = false from rfl]
      walk_at "ct"
      refine ⟨b, ws, rfl, .inl (s2.seq hb), ?_⟩
      walk_at "ct"
      rw [show (ws.length : Int) + 1 = ((ps.length + 1 : Nat) : Int) by omega]
      refine ⟨a, cs, ((ps.length + 1 : Nat) : Int), rfl, s2.seq ha, by omega, by omega, fun sp H3 s3 nsp hsp => ?_⟩
      have s13 := s2.trans s3
      walk_at "ct"
      refine ⟨sp, b, cs, ((ps.length + 1 : Nat) : Int), ws, ss, rfl, .of hsp, s13.seq hb, dpAll_same s13 hd, cl, sl, fun H4 s4 => ?_⟩
      rw [← hps]
      have s14 := s13.trans s4
      refine w_bl ?_
      cases hf : freeB ps ((ps.length + 1 : Nat) : Int) with
      | false =>
        walk_at "ct"
        refine ⟨len2 rfl, fun g ng => ?_⟩
        exact q g _ (s14.trans (same_upd ng)) (.inr (.inl ⟨nw, hf, upd_same⟩))
      | true =>
        walk_at "ct"
        refine ⟨fun n σ G => ∃ t : Nat, σ = [some (.ref a), some (.ref b), some (.ref l), some (.int (t : Int)), none, none, none] ∧ Same H G ∧ 1 ≤ t ∧ t ≤ ps.length + 1 ∧ n = ps.length + 1 - t ∧ ∀ u : Nat, 1 ≤ u → u < t → freeB ps u = false, ⟨_, 1, rfl, s14, Nat.le_refl _, by omega, rfl, fun u a b => by omega⟩, ?_⟩
        rintro n σ G ⟨t, rfl, sG, t1, tn, en, low⟩
        walk_at "ct"
        refine ⟨a, cs, (t : Int), rfl, sG.seq ha, by omega, by omega, fun sp2 H5 s5 nsp2 hsp2 => ?_⟩
        have s15 := sG.trans s5
        walk_at "ct"
        refine ⟨sp2, b, cs, (t : Int), ws, ss, rfl, .of hsp2, s15.seq hb, dpAll_same s15 hd, cl, sl, fun H6 s6 => ?_⟩
        rw [← hps]
        have s16 := s15.trans s6
        refine w_bl ?_
        cases ht : freeB ps (t : Int) with
        | false =>
          have tlt : t < ps.length + 1 := by
            rcases Nat.lt_or_ge t (ps.length + 1) with z | z
            · exact z
            · have : t = ps.length + 1 := by omega
              rw [this, hf] at ht
              cases ht
          rw [show (!false) = true from rfl]
          refine L2.iteT ⟨fun σ' G' => ∃ m', m' < n ∧ ∃ t : Nat, σ' = [some (.ref a), some (.ref b), some (.ref l), some (.int (t : Int)), none, none, none] ∧ Same H G' ∧ 1 ≤ t ∧ t ≤ ps.length + 1 ∧ m' = ps.length + 1 - t ∧ ∀ u : Nat, 1 ≤ u → u < t → freeB ps u = false, fun _ _ z => z, ?_⟩
          walk_at "ct"
          refine ⟨n - 1, by omega, t + 1, rfl, s16, by omega, by omega, by omega, fun u u1 u2 => ?_⟩
          by_cases z : u < t
          · exact low u u1 z
          · rw [show u = t by omega]
            exact ht
        | true =>
          rw [show (!true) = false from rfl]
          refine L2.iteF ?_
          walk_at "ct"
          refine ⟨a, cs, (t : Int), rfl, s16.seq ha, by omega, by omega, fun sp3 H7 s7 nsp3 hsp3 => ?_⟩
          have s17 := s16.trans s7
          walk_at "ct"
          refine w_IE (s17.seq hb) ?_
          refine lb_enum ws (fun D n G => Same H7 G ∧ ∃ xs : List Int, G D = some (.lst (xs.map V.int)) ∧ xs.length ≤ n ∧ ∀ r, r ∈ xs ↔ ∃ p ∈ ps.take n, p.2.2 ≠ 0 ∧ p.2.1 % (t : Int) = r) (fun D hD => ⟨same_upd hD, [], upd_same, Nat.le_refl _, fun r => by simp⟩) (fun D hD n G _ h => (s17.trans h.1).seq hb) ?_ ?_
          · rintro D hD n y Tp G hy ⟨sG, xs, hG, xl, mem⟩ nT
            have hn : n < ws.length := (List.getElem?_eq_some_iff.mp hy).1
            obtain ⟨c, hc⟩ : ∃ c, cs[n]? = some c := ⟨_, List.getElem?_eq_getElem (by omega)⟩
            obtain ⟨z, hz⟩ : ∃ z, ss[n]? = some z := ⟨_, List.getElem?_eq_getElem (by omega)⟩
            obtain ⟨v', hv1, hd1⟩ := dpAll_get hd (i := n) (d := sh2D z) (by rw [List.getElem?_map, hz]; rfl)
            cases Option.some.inj (hy.symm.trans hv1)
            have hp : ps[n]? = some (c, toothN cs n, z.2) := by rw [hps]; exact pass_at cl hc hz
            have tk : ∀ r, (∃ q ∈ ps.take (n + 1), q.2.2 ≠ 0 ∧ q.2.1 % (t : Int) = r) ↔ (∃ q ∈ ps.take n, q.2.2 ≠ 0 ∧ q.2.1 % (t : Int) = r) ∨ (z.2 ≠ 0 ∧ toothN cs n % (t : Int) = r) := fun r => by
              rw [List.take_add_one, hp, Option.toList_some]
              simp only [List.mem_append, List.mem_singleton]
              constructor
              · rintro ⟨q, hq | rfl, z⟩
                · exact .inl ⟨q, hq, z⟩
                · exact .inr z
              · rintro (⟨q, hq, z⟩ | z)
                · exact ⟨q, .inl hq, z⟩
                · exact ⟨_, .inr rfl, z⟩
            have sT : Same G (upd G Tp (.tup [.int (n : Nat), y])) := same_upd nT
            have hT : (upd G Tp (.tup [.int (n : Nat), y])) Tp = some (.tup [.int (n : Nat), y]) := upd_same
            generalize upd G Tp _ = G1 at *
            have s3 := sG.trans sT
            have hG3 := sT _ _ hG
            obtain ⟨g, rfl, hg⟩ := sh2_inv (dp_same (s17.trans s3) hd1)
            refine w_gtup (.of hT) rfl ?_
            walk_at "ct"
            refine ⟨rfl, ?_⟩
            walk_at "ct"
            refine w_iteN (fun e => ?_) (fun e => ?_)
            · have c0 : c ≠ 0 := by
                rcases wrongB_no (nw _ (List.mem_of_getElem? hp)) with f | f
                · intro z0
                  exact e (f.trans z0)
                · exact absurd f e
              walk_at "ct"
              refine w_ixL (.of (s3 _ _ hsp3)) (v := .int (toothN cs n % (t : Int))) (at_of (j := n) rfl (by rw [List.getElem?_map, List.getElem?_range (by omega)]; show some (spotV cs t n) = _; unfold spotV; rw [hc, if_neg (by simpa using c0)])) ?_
              refine ⟨_, hG3, by rw [List.length_map]; exact small1000 (by omega), same_new s3 hD, xs ++ [toothN cs n % (t : Int)], by rw [upd_same, List.map_append]; rfl, by rw [List.length_append]; show xs.length + 1 ≤ n + 1; omega, fun r => ?_⟩
              rw [tk r, ← mem r, List.mem_append, List.mem_singleton]
              exact ⟨fun z => z.imp id fun y => ⟨e, y.symm⟩, fun z => z.imp id fun y => y.2.symm⟩
            · refine ⟨s3, xs, hG3, by omega, fun r => ?_⟩
              rw [tk r, mem r]
              exact ⟨.inl, fun z => z.resolve_right fun y => y.1 e⟩
          · rintro D hD G ⟨sG, xs, hG, xl, mem⟩
            rw [wl, ← pl, List.take_length] at mem
            refine ⟨D, xs, rfl, .inl (.of hG), by omega, fun st c nst _ => ?_⟩
            have v1 : Same G (upd G st (IntSet w st (fun j => decide (j ∈ xs), c))) := same_upd nst
            have hst : (upd G st (IntSet w st (fun j => decide (j ∈ xs), c))) st = some (IntSet w st (fun j => decide (j ∈ xs), c)) := upd_same
            generalize upd G st _ = G1 at *
            walk_at "ct"
            refine ⟨st, (fun j => decide (j ∈ xs), c), rfl, hst, fun ms so up mem2 _ nso => ?_⟩
            have v2 : Same G1 (upd G1 so (.lst (ms.map V.int))) := same_upd nso
            have hso : (upd G1 so (.lst (ms.map V.int))) so = some (.lst (ms.map V.int)) := upd_same
            generalize upd G1 so _ = G2 at *
            walk_at "ct"
            refine ⟨so, _, rfl, .inl ⟨.of hso, fun m nm => ?_⟩⟩
            have v3 : Same G2 (upd G2 m (.tup (ms.map V.int))) := same_upd nm
            have hm : (upd G2 m (.tup (ms.map V.int))) m = some (.tup (ms.map V.int)) := upd_same
            generalize upd G2 m _ = G3 at *
            walk_at "ct"
            refine ⟨len2 rfl, fun g ng => ?_⟩
            have v4 := same_upd (o := .tup [.str "wheel", .int (t : Int), .ref m]) ng
            refine q g _ ((s17.trans sG).trans ((v1.trans v2).trans (v3.trans v4))) (.inr (.inr ⟨nw, hf, t, m, ms, t1, ht, low, upd_same, v4 _ _ hm, up, fun r => ?_⟩))
            rw [mem2 r, ← mem r]
            exact decide_eq_true_iff
abbrev S__law_two : Stmt := topS 55
theorem sc__law_two : FnScope ["_law_ways", "_law_shows", "_law_teeth", "_law_two_here", "_law_spots_here"] ["_law_ways", "_law_shows", "_law_teeth", "_law_two_here"] (defScope S__law_two) := ⟨rfl, rfl, rfl, by decide +kernel, rfl, by decide +kernel, by decide +kernel⟩
def sp__law_two (K : PySem.W.Frag) : Sp := fun vs H Q _ => ∃ (a b : Addr) (cs : List Int) (ws : List V) (ss : List (Int × Int)) (t : Int) (v : V) (d : PyData), vs = [.ref a, .ref b, .int t, v] ∧ SqL K H a (cs.map V.int) ∧ SqL K H b ws ∧ DpAll K H ws (ss.map sh2D) ∧ cs.length = ss.length ∧ ss.length ≤ 1000 ∧ 1 ≤ t ∧
  Dp K H v d ∧ ∀ H', Same H H' → Q (.bl (twoB (passN cs ss ss.length) t d)) H'
theorem ok__law_two {f : Addr} {fd : FuncData} {f__law_spots : Addr} {fd__law_spots : FuncData} {f__law_whole : Addr} {fd__law_whole : FuncData} (F : Fun K "_law_two" "_law_two" S__law_two f fd)
    (F__law_spots : Fun K "_law_spots" "_law_spots" S__law_spots f__law_spots fd__law_spots) (b__law_spots : Binds K fd__law_spots ["_law_ways", "_law_teeth"] []) (g__law_spots : mg "_law_spots" = some (.ref f__law_spots)) (G__law_spots : FnOk P w K mg base CX0 1 f__law_spots fd__law_spots ["_law_ways", "_law_teeth"] (sp__law_spots K))
    (F__law_whole : Fun K "_law_whole" "_law_whole" S__law_whole f__law_whole fd__law_whole) (b__law_whole : Binds K fd__law_whole ["_law_found"] []) (g__law_whole : mg "_law_whole" = some (.ref f__law_whole)) (G__law_whole : FnOk P w K mg base CX0 1 f__law_whole fd__law_whole ["_law_found"] (sp__law_whole K)) (m_isinstance : mg "isinstance" = none) (m_tuple : mg "tuple" = none) (m_len : mg "len" = none) :
    FnOk P w K mg base CX0 2 f fd ["_law_ways", "_law_shows", "_law_teeth", "_law_two_here"] (sp__law_two K) := by
  refine F.ok sc__law_two (fun vs H Q E h => ?_) (fun cdv A outer s H vs Q E hr h => ?_)
  ·
    obtain ⟨a, b, cs, ws, ss, t, v, d, rfl, _⟩ := h
    rfl
  ·
    obtain ⟨a, b, cs, ws, ss, t, v, d, rfl, ha, hb, hd, cl, sl, t1, hv, q⟩ := h
    refine ⟨_, (pss_cons (ps_if (PW.pt (pw_or (pt_not (pt_val (pe_callB (r := rIsi K) call_isi (by rfl) m_isinstance (by decide +kernel) (pa_cons (pv 3) (pa_cons (pe_bltn (v := .ty "tuple") (u := .type "tuple") (by rfl) m_tuple (by decide +kernel) rfl) pa_nil))))) (pw_or (pt_cmpR op_ne (pe_callB call_len_seq (by rfl) m_len (by decide +kernel) (pa_cons (pv 3) pa_nil)) pe_int (nomark _)) (pw_or (pt_not (pt_val (pe_call G__law_whole (hr.mono (by decide)) (by rfl) g__law_whole F__law_whole.kp b__law_whole .nil pass0 (pa_cons (pe_ix (r := rIxT K) ix_tup (pv 3) pe_int (fun _ _ => rfl)) pa_nil)))) (pw_or1 (pt_not (pt_val (pe_call G__law_whole (hr.mono (by decide)) (by rfl) g__law_whole F__law_whole.kp b__law_whole .nil pass0 (pa_cons (pe_ix (r := rIxT K) ix_tup (pv 3) pe_int (fun _ _ => rfl)) pa_nil))))))))) (pss_one (ps_ret pe_bl)) pss_nil)
      (pss_cons (ps_if (PW.pt (pw_or (pt_cmpR op_lt (pe_ix (r := rIxT K) ix_tup (pv 3) pe_int (fun _ _ => rfl)) pe_int (nomark _)) (pw_or (pt_cmpR op_ge (pe_ix (r := rIxT K) ix_tup (pv 3) pe_int (fun _ _ => rfl)) (pe_ix (r := rIxT K) ix_tup (pv 3) pe_int (fun _ _ => rfl)) (nomark _)) (pw_or1 (pt_cmpR op_ge (pe_ix (r := rIxT K) ix_tup (pv 3) pe_int (fun _ _ => rfl)) (pe_callB call_len_seq (by rfl) m_len (by decide +kernel) (pa_cons (pv 1) pa_nil)) (nomark _)))))) (pss_one (ps_ret pe_bl)) pss_nil)
      (pss_cons (ps_set (i := 4) sc__law_two.nd rfl (.inl rfl) (pe_call G__law_spots (hr.mono (by decide)) (by rfl) g__law_spots F__law_spots.kp b__law_spots .nil pass0 (pa_cons (pv 0) (pa_cons (pv 2) pa_nil))))
      (pss_cons (ps_if (PW.pt (pw_or (pt_cmpR op_isN (pe_ix (r := rIxL K) ix_list (pv 4) (pe_ix (r := rIxT K) ix_tup (pv 3) pe_int (fun _ _ => rfl)) (fun _ _ => rfl)) pe_non (nomark _)) (pw_or1 (pt_cmpR op_ne (pe_ix (r := rIxL K) ix_list (pv 4) (pe_ix (r := rIxT K) ix_tup (pv 3) pe_int (fun _ _ => rfl)) (fun _ _ => rfl)) (pe_ix (r := rIxL K) ix_list (pv 4) (pe_ix (r := rIxT K) ix_tup (pv 3) pe_int (fun _ _ => rfl)) (fun _ _ => rfl)) (nomark _))))) (pss_one (ps_ret pe_bl)) pss_nil)
      (pss_one (ps_ret (pe_cmpR op_ne (pe_cmpR op_eq (pe_ix (r := rIxT K) ix_tup (pe_ix (r := rIxL K) ix_list (pv 1) (pe_ix (r := rIxT K) ix_tup (pv 3) pe_int (fun _ _ => rfl)) (fun _ _ => rfl)) pe_int (fun _ _ => rfl)) pe_int (nomark _)) (pe_cmpR op_eq (pe_ix (r := rIxT K) ix_tup (pe_ix (r := rIxL K) ix_list (pv 1) (pe_ix (r := rIxT K) ix_tup (pv 3) pe_int (fun _ _ => rfl)) (fun _ _ => rfl)) pe_int (fun _ _ => rfl)) pe_int (nomark _)) (nomark _)))))))), ?_⟩
    refine w_st (σ' := [some (.ref a), some (.ref b), some (.int t), some v, none]) rfl ?_
    have wl : ws.length = ss.length := by rw [dpAll_len hd, List.length_map]
    have pl := pass_len cl
    walk_at "ct"
    cases hv with
    | non =>
      refine w_isi (b := false) (.base .non) (kit_ty (by decide +kernel)) ?_
      walk_at "ct"
      exact q H (Same.refl _)
    | bl b =>
      refine w_isi (b := false) (.base (.bl b)) (kit_ty (by decide +kernel)) ?_
      walk_at "ct"
      exact q H (Same.refl _)
    | int i =>
      refine w_isi (b := false) (.base (.int i)) (kit_ty (by decide +kernel)) ?_
      walk_at "ct"
      exact q H (Same.refl _)
    | str x =>
      refine w_isi (b := false) (.base (.str x)) (kit_ty (by decide +kernel)) ?_
      walk_at "ct"
      exact q H (Same.refl _)
    | lst hs ht =>
      refine w_isi (b := false) (tyx_L hs) (kit_ty (by decide +kernel)) ?_
      walk_at "ct"
      exact q H (Same.refl _)
    | @tup c _ _ hs ht =>
      refine w_isi (b := true) (tyx_T hs) (kit_ty (by decide +kernel)) ?_
      walk_at "ct"
      refine ⟨_, _, rfl, .inr hs, ?_⟩
      cases ht with
      | nil =>
        walk_at "ct"
        refine w_iteN (fun _ => ?_) (fun e => absurd e (by decide))
        walk_at "ct"
        exact q H (Same.refl _)
      | cons h1 t1 =>
        cases t1 with
        | nil =>
          walk_at "ct"
          refine w_iteN (fun _ => ?_) (fun e => absurd e (by simp))
          walk_at "ct"
          rw [twoB_1] at q
          exact q H (Same.refl _)
        | cons h2 t2 =>
          cases t2 with
          | cons h3 t3 =>
            walk_at "ct"
            refine w_iteN (fun _ => ?_) (fun e => absurd e (by simp only [List.length_cons]; omega))
            walk_at "ct"
            rw [twoB_3] at q
            exact q H (Same.refl _)
          | nil =>
            rename_i v1 d1 v2 d2
            walk_at "ct"
            refine w_iteN (fun e => absurd rfl e) (fun _ => ?_)
            walk_at "ct"
            refine ⟨_, _, rfl, h1, ?_⟩
            cases e1 : isW d1 with
            | false =>
              rw [twoB_l e1] at q
              walk_at "ct"
              exact q H (Same.refl _)
            | true =>
              obtain ⟨j, rfl⟩ := isW_int e1
              cases h1
              walk_at "ct"
              refine ⟨_, _, rfl, h2, ?_⟩
              cases e2 : isW d2 with
              | false =>
                rw [twoB_r e2] at q
                walk_at "ct"
                exact q H (Same.refl _)
              | true =>
                obtain ⟨k, rfl⟩ := isW_int e2
                cases h2
                have q : ∀ H', Same H H' → Q (.bl (decide (0 ≤ j) && (decide (j < k) && (decide (k < ((passN cs ss ss.length).length : Int)) && hitB (passN cs ss ss.length) t j.toNat k.toNat)))) H' := q
                rw [pl] at q
                walk_at "ct"
                refine w_ite (fun z => ?_) (fun z0 => ?_)
                · walk_at "ct"
                  rw [decide_eq_false (show ¬ 0 ≤ j by omega)] at q
                  exact q H (Same.refl _)
                rw [decide_eq_true (show 0 ≤ j by omega), Bool.true_and] at q
                walk_at "ct"
                refine w_ite (fun z => ?_) (fun z1 => ?_)
                · walk_at "ct"
                  rw [decide_eq_false (show ¬ j < k by omega)] at q
                  exact q H (Same.refl _)
                rw [decide_eq_true (show j < k by omega), Bool.true_and] at q
                walk_at "ct"
                refine ⟨b, ws, rfl, .inl hb, ?_⟩
                walk_at "ct"
                refine w_ite (fun z => ?_) (fun z2 => ?_)
                · walk_at "ct"
                  rw [decide_eq_false (show ¬ k < (ss.length : Int) by omega)] at q
                  exact q H (Same.refl _)
                rw [decide_eq_true (show k < (ss.length : Int) by omega), Bool.true_and] at q
                obtain ⟨jn, rfl⟩ : ∃ jn : Nat, j = (jn : Int) := ⟨j.toNat, by omega⟩
                obtain ⟨kn, rfl⟩ : ∃ kn : Nat, k = (kn : Int) := ⟨k.toNat, by omega⟩
                rw [Int.toNat_natCast, Int.toNat_natCast] at q
                obtain ⟨cj, hcj⟩ : ∃ c, cs[jn]? = some c := ⟨_, List.getElem?_eq_getElem (by omega)⟩
                obtain ⟨ck, hck⟩ : ∃ c, cs[kn]? = some c := ⟨_, List.getElem?_eq_getElem (by omega)⟩
                obtain ⟨zj, hzj⟩ : ∃ z, ss[jn]? = some z := ⟨_, List.getElem?_eq_getElem (by omega)⟩
                obtain ⟨zk, hzk⟩ : ∃ z, ss[kn]? = some z := ⟨_, List.getElem?_eq_getElem (by omega)⟩
                obtain ⟨vj, hvj, hdj⟩ := dpAll_get hd (i := jn) (d := sh2D zj) (by rw [List.getElem?_map, hzj]; rfl)
                obtain ⟨vk, hvk, hdk⟩ := dpAll_get hd (i := kn) (d := sh2D zk) (by rw [List.getElem?_map, hzk]; rfl)
                have eh : hitB (passN cs ss ss.length) t jn kn = (decide (toothN cs jn % t = toothN cs kn % t) && (!decide (cj = 0) && (!decide (ck = 0) && (decide (zj.2 = 0) != decide (zk.2 = 0))))) := by
                  unfold hitB
                  rw [pass_at cl hcj hzj, pass_at cl hck hzk]
                  rfl
                rw [eh] at q
                walk_at "ct"
                refine ⟨a, cs, t, rfl, ha, by assumption, by omega, fun l H1 s1 nl hl => ?_⟩
                have hs1 := Same.tup s1 hs
                have aj : atI ((List.range cs.length).map (spotV cs t)) (jn : Int) = some (spotV cs t jn) := at_of (j := jn) rfl (by rw [List.getElem?_map, List.getElem?_range (by omega)]; rfl)
                have ak : atI ((List.range cs.length).map (spotV cs t)) (kn : Int) = some (spotV cs t kn) := at_of (j := kn) rfl (by rw [List.getElem?_map, List.getElem?_range (by omega)]; rfl)
                walk_at "ct"
                refine w_ixL (.of hl) aj ?_
                by_cases c0 : cj = 0
                · rw [show spotV cs t jn = .non by unfold spotV; rw [hcj, c0, if_pos rfl]]
                  refine ⟨rfl, ?_⟩
                  refine ⟨true, rfl, ?_⟩
                  walk_at "ct"
                  rw [decide_eq_true c0, show (decide (toothN cs jn % t = toothN cs kn % t) && (!true && (!decide (ck = 0) && (decide (zj.2 = 0) != decide (zk.2 = 0))))) = false by rw [Bool.not_true, Bool.false_and, Bool.and_false]] at q
                  exact q H1 s1
                rw [decide_eq_false c0, Bool.not_false, Bool.true_and] at q
                rw [show spotV cs t jn = .int (toothN cs jn % t) by unfold spotV; rw [hcj, if_neg (by simpa using c0)]] at aj ⊢
                refine ⟨rfl, ?_⟩
                refine ⟨false, rfl, ?_⟩
                walk_at "ct"
                refine w_ixL (.of hl) aj ?_
                walk_at "ct"
                refine w_ixL (.of hl) ak ?_
                by_cases c1 : ck = 0
                · rw [show spotV cs t kn = .non by unfold spotV; rw [hck, c1, if_pos rfl]]
                  walk_at "ct"
                  refine ⟨rfl, ?_⟩
                  refine ⟨true, rfl, ?_⟩
                  walk_at "ct"
                  rw [decide_eq_true c1, Bool.not_true, Bool.false_and, Bool.and_false] at q
                  exact q H1 s1
                rw [decide_eq_false c1, Bool.not_false, Bool.true_and] at q
                rw [show spotV cs t kn = .int (toothN cs kn % t) by unfold spotV; rw [hck, if_neg (by simpa using c1)]]
                walk_at "ct"
                by_cases e3 : toothN cs jn % t = toothN cs kn % t
                · rw [decide_eq_true e3, Bool.true_and] at q
                  refine w_iteN (fun z => absurd e3 z) (fun _ => ?_)
                  obtain ⟨gj, rfl, hgj⟩ := sh2_inv (dp_same s1 hdj)
                  obtain ⟨gk, rfl, hgk⟩ := sh2_inv (dp_same s1 hdk)
                  walk_at "ct"
                  refine w_ixL (s1.seq hb) (at_of (j := jn) rfl hvj) ?_
                  walk_at "ct"
                  refine w_ixL (s1.seq hb) (at_of (j := kn) rfl hvk) ?_
                  walk_at "ct"
                  refine ⟨rfl, ?_⟩
                  rw [show (!decide (V.bl (decide (zj.2 = 0)) = V.bl (decide (zk.2 = 0)))) = (decide (zj.2 = 0) != decide (zk.2 = 0)) by
                    cases decide (zj.2 = 0) <;> cases decide (zk.2 = 0) <;> rfl]
                  exact q H1 s1
                · rw [decide_eq_false e3, Bool.false_and] at q
                  refine w_iteN (fun _ => ?_) (fun z => absurd z e3)
                  walk_at "ct"
                  exact q H1 s1
abbrev S__law_marks : Stmt := topS 56
theorem sc__law_marks : FnScope ["_law_teeth", "_law_marks_here", "_law_mark"] ["_law_teeth", "_law_marks_here"] (defScope S__law_marks) := ⟨rfl, rfl, rfl, by decide +kernel, rfl, by decide +kernel, by decide +kernel⟩
def sp__law_marks (K : PySem.W.Frag) : Sp := fun vs H Q _ => ∃ (t : Int) (v : V) (d : PyData), vs = [.int t, v] ∧ Dp K H v d ∧ (∀ ds, d = .tuple ds → ds.length ≤ 4000) ∧ ∀ H', Same H H' → Q (.bl (areM d t)) H'
theorem ok__law_marks {f : Addr} {fd : FuncData} {f__law_whole : Addr} {fd__law_whole : FuncData} (F : Fun K "_law_marks" "_law_marks" S__law_marks f fd)
    (F__law_whole : Fun K "_law_whole" "_law_whole" S__law_whole f__law_whole fd__law_whole) (b__law_whole : Binds K fd__law_whole ["_law_found"] []) (g__law_whole : mg "_law_whole" = some (.ref f__law_whole)) (G__law_whole : FnOk P w K mg base CX0 1 f__law_whole fd__law_whole ["_law_found"] (sp__law_whole K)) (m_list : mg "list" = none) (m_sorted : mg "sorted" = none) (m_isinstance : mg "isinstance" = none) (m_tuple : mg "tuple" = none) (m_all : mg "all" = none) (m_set : mg "set" = none) :
    FnOk P w K mg base CX0 2 f fd ["_law_teeth", "_law_marks_here"] (sp__law_marks K) := by
  refine F.ok sc__law_marks (fun vs H Q E h => ?_) (fun cdv A outer s H vs Q E hr h => ?_)
  ·
    obtain ⟨t, v, d, rfl, _⟩ := h
    rfl
  ·
    obtain ⟨t, v, d, rfl, hd, ml, q⟩ := h
    refine ⟨_, (pss_cons (ps_if (PW.pt (pw_or (pt_not (pt_val (pe_callB (r := rIsi K) call_isi (by rfl) m_isinstance (by decide +kernel) (pa_cons (pv 1) (pa_cons (pe_bltn (v := .ty "tuple") (u := .type "tuple") (by rfl) m_tuple (by decide +kernel) rfl) pa_nil))))) (pw_or1 (pt_not (pt_val (pe_callB (r := rAll K) (cr_all rfl) (by rfl) m_all (by decide +kernel) (pa_cons (pe_lc (own := [("_law_mark", 2)]) (g := gName 2)  rfl sc__law_marks.nd  (pi_tup (pv 1)) (blkOk_by (own := [("_law_mark", 2)]) (N := ["_law_teeth", "_law_marks_here", "_law_mark"]) (sc := defScope S__law_marks) (by decide +kernel)) (fun _ _ _ _ _ => pg_name (i := 2) sc__law_marks.nd rfl (Or.inl rfl)) (fun _ _ _ _ _ => pts_nil) (fun _ _ _ _ _ => (pe_and (pe_call G__law_whole (hr.mono (by decide)) (by rfl) g__law_whole F__law_whole.kp b__law_whole .nil pass0 (pa_cons (pv 2) pa_nil)) (pe_one (pe_chain op_le op_lt pe_int (pv 2) (pv 0)))))) pa_nil))))))) (pss_one (ps_ret pe_bl)) pss_nil)
      (pss_one (ps_ret (pe_cmpR (r := rEqD K) (op_eqD hr.units) (pe_callTy call_list_of (by rfl) m_list (by decide +kernel) (pa_cons (pv 1) pa_nil)) (pe_callB (r := rSrtI w) (cr_srtI rfl) (by rfl) m_sorted (by decide +kernel) (pa_cons (pe_callTy (r := rSetI K w) (cr_setI rfl) (by rfl) m_set (by decide +kernel) (pa_cons (pv 1) pa_nil)) pa_nil)) (nomark _))))), ?_⟩
    refine w_st (σ' := [some (.int t), some v, none]) rfl ?_
    walk_at "ct"
    cases hd with
    | non =>
      refine w_isi (b := false) (.base .non) (kit_ty (by decide +kernel)) ?_
      walk_at "ct"
      exact q H (Same.refl _)
    | bl b =>
      refine w_isi (b := false) (.base (.bl b)) (kit_ty (by decide +kernel)) ?_
      walk_at "ct"
      exact q H (Same.refl _)
    | int i =>
      refine w_isi (b := false) (.base (.int i)) (kit_ty (by decide +kernel)) ?_
      walk_at "ct"
      exact q H (Same.refl _)
    | str x =>
      refine w_isi (b := false) (.base (.str x)) (kit_ty (by decide +kernel)) ?_
      walk_at "ct"
      exact q H (Same.refl _)
    | lst hs ht =>
      refine w_isi (b := false) (tyx_L hs) (kit_ty (by decide +kernel)) ?_
      walk_at "ct"
      exact q H (Same.refl _)
    | @tup a xs ds hs ht =>
      refine w_isi (b := true) (tyx_T hs) (kit_ty (by decide +kernel)) ?_
      have hxl := dpAll_len ht
      have dl := ml ds rfl
      walk_at "ct"
      refine w_IT hs ?_
      refine lb_tup xs (fun D2 k G => Same H G ∧ G D2 = some (.lst ((ds.take k).map fun e => V.bl (inB t e)))) (fun D2 hD2 => ⟨same_upd hD2, upd_same⟩) (fun D2 hD2 k G _ h => Same.tup h.1 hs) ?_ ?_
      · rintro D2 hD2 k x G hx ⟨sG, hG⟩
        have hn : k < xs.length := (List.getElem?_eq_some_iff.mp hx).1
        obtain ⟨e, he⟩ : ∃ e, ds[k]? = some e := ⟨_, List.getElem?_eq_getElem (by omega)⟩
        obtain ⟨x', hx', hde⟩ := dpAll_get ht he
        cases Option.some.inj (hx.symm.trans hx')
        walk_at "ct"
        refine ⟨rfl, ?_⟩
        walk_at "ct"
        refine ⟨x, e, rfl, dp_same sG hde, ?_⟩
        have fin : ∀ b : Bool, b = inB t e → ∃ acc, G D2 = some (.lst acc) ∧ acc.length < sizeLine ∧ Same H (upd G D2 (.lst (acc ++ [.bl b]))) ∧ (upd G D2 (.lst (acc ++ [.bl b]))) D2 = some (.lst ((ds.take (k + 1)).map fun e => V.bl (inB t e))) := fun b hb => by
          refine ⟨_, hG, by rw [List.length_map, List.length_take]; exact Nat.lt_of_le_of_lt (show min k ds.length ≤ 4000 by omega) (by decide), same_new sG hD2, ?_⟩
          rw [upd_same, List.take_add_one, he, List.map_append, hb]
          rfl
        walk_at "ct"
        cases e with
        | int i =>
          cases hde
          rw [if_pos (show isW (.int i) = true from rfl)]
          walk_at "ct"
          refine w_ite (fun z => ?_) (fun z => ?_)
          · walk_at "ct"
            exact fin _ (by show decide (i < t) = (decide (0 ≤ i) && decide (i < t)); rw [decide_eq_true z, Bool.true_and])
          · exact fin _ (by show false = (decide (0 ≤ i) && decide (i < t)); rw [decide_eq_false z]; rfl)
        | none => exact fin _ rfl
        | bool _ => exact fin _ rfl
        | str _ => exact fin _ rfl
        | list _ => exact fin _ rfl
        | tuple _ => exact fin _ rfl
        | dict _ => exact fin _ rfl
      rintro D2 nD2 H1 ⟨s1, hD2⟩
      rw [List.take_of_length_le (by omega)] at hD2
      walk_at "ct"
      refine ⟨D2, ds.map (inB t), rfl, .of (by rw [List.map_map]; exact hD2), ?_⟩
      cases al : (ds.map (inB t)).all id with
      | false =>
        refine ⟨false, rfl, ?_⟩
        walk_at "ct"
        have e : areM (.tuple ds) t = false := by
          cases e : areM (.tuple ds) t with
          | false => rfl
          | true =>
            obtain ⟨ms, h1, rs, _⟩ := areM_inv e
            have h1 : ds = ms.map PyData.int := PyData.tuple.inj h1
            rw [h1, List.map_map, List.all_map] at al
            rw [List.all_eq_true.mpr fun m hm => ?_] at al
            · cases al
            · have := rs.2 m hm
              show (decide (0 ≤ m) && decide (m < t)) = true
              rw [decide_eq_true this.1, decide_eq_true this.2]
              rfl
        rw [e] at q
        exact q H1 s1
      | true =>
        refine ⟨true, rfl, ?_⟩
        obtain ⟨ms, hms, mb⟩ : ∃ ms : List Int, ds = ms.map PyData.int ∧ ∀ m ∈ ms, 0 ≤ m ∧ m < t := ints_in al
        subst hms
        have hxs : xs = ms.map V.int := dpAll_ints_inv _ ht
        subst hxs
        have hs1 := Same.tup s1 hs
        walk_at "ct"
        refine ⟨a, _, rfl, .inr hs1, fun l nl => ?_⟩
        have s2 : Same H1 (upd H1 l (.lst (ms.map V.int))) := same_upd nl
        have hl : (upd H1 l (.lst (ms.map V.int))) l = some (.lst (ms.map V.int)) := upd_same
        generalize upd H1 l _ = H2 at *
        walk_at "ct"
        refine ⟨a, ms, rfl, .inr (Same.tup s2 hs1), by rw [List.length_map] at dl; exact dl, fun st c nst _ => ?_⟩
        have s3 : Same H2 (upd H2 st (IntSet w st (fun j => decide (j ∈ ms), c))) := same_upd nst
        have hst : (upd H2 st (IntSet w st (fun j => decide (j ∈ ms), c))) st = some (IntSet w st (fun j => decide (j ∈ ms), c)) := upd_same
        generalize upd H2 st _ = H3 at *
        walk_at "ct"
        refine ⟨st, _, rfl, hst, fun ns p pw mem _ np => ?_⟩
        have s4 : Same H3 (upd H3 p (.lst (ns.map V.int))) := same_upd np
        have hp : (upd H3 p (.lst (ns.map V.int))) p = some (.lst (ns.map V.int)) := upd_same
        generalize upd H3 p _ = H4 at *
        walk_at "ct"
        refine ⟨.list (ms.map PyData.int), .list (ns.map PyData.int), .lst (.of ((s3.trans s4) _ _ hl)) (dpAll_ints ms), .lst (.of hp) (dpAll_ints ns), shaped_of (lay_lst (n := 0) (lay_ints ms 0)) (by decide), shaped_of (lay_lst (n := 0) (lay_ints ns 0)) (by decide), ?_⟩
        have e : PyData.eqv (.list (ms.map PyData.int)) (.list (ns.map PyData.int)) = areM (.tuple (ms.map PyData.int)) t := by
          rw [eqv_intl]
          have mem : ∀ k, k ∈ ns ↔ k ∈ ms := fun k => (mem k).trans ⟨fun z => of_decide_eq_true z, fun z => decide_eq_true z⟩
          by_cases c : ms = ns
          · rw [decide_eq_true c]
            exact (areM_ok ⟨by rw [c]; exact pw, mb⟩).symm
          · rw [decide_eq_false c]
            cases e : areM (.tuple (ms.map PyData.int)) t with
            | false => rfl
            | true =>
              obtain ⟨ms', h1, rs, _⟩ := areM_inv e
              have h1 : ms = ms' := ints_inj (PyData.tuple.inj h1)
              subst h1
              exact absurd (rise_eq rs.1 pw fun r => (mem r).symm) c
        rw [e]
        exact q H4 ((s1.trans s2).trans (s3.trans s4))
abbrev S__law_does : Stmt := topS 57
theorem sc__law_does : FnScope ["_law_ways", "_law_shows", "_law_teeth", "_law_marks_here", "_law_way", "_law_spot", "_law_show"] ["_law_ways", "_law_shows", "_law_teeth", "_law_marks_here"] (defScope S__law_does) := ⟨rfl, rfl, rfl, by decide +kernel, rfl, by decide +kernel, by decide +kernel⟩
def sp__law_does (K : PySem.W.Frag) : Sp := fun vs H Q _ => ∃ (a b m : Addr) (cs : List Int) (ws : List V) (ss : List (Int × Int)) (t : Int) (ms : List Int), vs = [.ref a, .ref b, .int t, .ref m] ∧ SqL K H a (cs.map V.int) ∧ SqL K H b ws ∧ DpAll K H ws (ss.map sh2D) ∧ cs.length = ss.length ∧ ss.length ≤ 1000 ∧ 1 ≤ t ∧ SqT K H m (ms.map V.int) ∧ (∀ c ∈ cs, c = 0 ∨ Sign c) ∧
  ∀ H', Same H H' → Q (.bl (doesB t ms (passN cs ss ss.length))) H'
theorem ok__law_does {f : Addr} {fd : FuncData} {f__law_spots : Addr} {fd__law_spots : FuncData} (F : Fun K "_law_does" "_law_does" S__law_does f fd)
    (F__law_spots : Fun K "_law_spots" "_law_spots" S__law_spots f__law_spots fd__law_spots) (b__law_spots : Binds K fd__law_spots ["_law_ways", "_law_teeth"] []) (g__law_spots : mg "_law_spots" = some (.ref f__law_spots)) (G__law_spots : FnOk P w K mg base CX0 1 f__law_spots fd__law_spots ["_law_ways", "_law_teeth"] (sp__law_spots K)) (m_zip : mg "zip" = none) (m_int : mg "int" = none) :
    FnOk P w K mg base CX0 2 f fd ["_law_ways", "_law_shows", "_law_teeth", "_law_marks_here"] (sp__law_does K) := by
  refine F.ok sc__law_does (fun vs H Q E h => ?_) (fun cdv A outer s H vs Q E hr h => ?_)
  ·
    obtain ⟨a, b, m, cs, ws, ss, t, ms, rfl, _⟩ := h
    rfl
  ·
    obtain ⟨a, b, m, cs, ws, ss, t, ms, rfl, ha, hb, hd, cl, sl, t1, hm, csg, q⟩ := h
    refine ⟨_, (pss_cons (ps_for PassesOwn.never rfl (pi_zip3 (by rfl) m_zip (pa_cons (pv 0) (pa_cons (pe_call G__law_spots (hr.mono (by decide)) (by rfl) g__law_spots F__law_spots.kp b__law_spots .nil pass0 (pa_cons (pv 0) (pa_cons (pv 2) pa_nil))) (pa_cons (pv 1) pa_nil)))) (pg_tup rfl (pgs_cons (pg_name (i := 4) sc__law_does.nd rfl (.inl rfl)) (pgs_cons (pg_name (i := 5) sc__law_does.nd rfl (.inl rfl)) (pgs_cons (pg_name (i := 6) sc__law_does.nd rfl (.inl rfl)) pgs_nil))))
      (pss_one (ps_if (pt_cmpR op_ne (pe_ix (r := rIxT K) ix_tup (pv 6) pe_int (fun _ _ => rfl)) (pe_op op_mulW (pv 4) (pe_callTy call_int1 (by rfl) m_int (by decide +kernel) (pa_cons (pe_cmpR (r := rIn K false) op_in_seq (pv 5) (pv 3) (by rfl)) pa_nil))) (nomark _)) (pss_one (ps_ret pe_bl)) pss_nil)))
      (pss_one (ps_ret pe_bl))), ?_⟩
    refine w_st (σ' := [some (.ref a), some (.ref b), some (.int t), some (.ref m), none, none, none]) rfl ?_
    have wl : ws.length = ss.length := by rw [dpAll_len hd, List.length_map]
    obtain ⟨PS, hPS⟩ : ∃ PS, PS = passN cs ss ss.length := ⟨_, rfl⟩
    have pl : PS.length = ss.length := by rw [hPS, pass_len cl]
    rw [← hPS] at q
    walk_at "ct"
    refine w_iz3 ?_
    walk_at "ct"
    refine ⟨a, cs, t, rfl, ha, t1, by omega, fun sp H1 s1 nsp hsp => ?_⟩
    walk_at "ct"
    refine w_IZ3 (s1.seq ha) (.of hsp) (s1.seq hb) ?_
    refine fb_zip3 (cs.map V.int) ((List.range cs.length).map (spotV cs t)) ws (by rw [List.length_map, List.length_map, List.length_range]) (by rw [List.length_map]; omega) (fun n σ G => ∃ (y4 y5 y6 : Option V), σ = [some (.ref a), some (.ref b), some (.int t), some (.ref m), y4, y5, y6] ∧ Same H1 G ∧ doesB t ms PS = doesB t ms (PS.drop n)) ⟨none, none, none, rfl, Same.refl _, rfl⟩ ?_ ?_ ?_
    · rintro n σ G _ ⟨y4, y5, y6, rfl, sG, _⟩
      exact ⟨(s1.trans sG).seq ha, .of (sG _ _ hsp), (s1.trans sG).seq hb⟩
    · rintro n x y z Tp σ G hx hy hz ⟨y4, y5, y6, rfl, sG, eq⟩ nT
      obtain ⟨c, hc, rfl⟩ : ∃ c : Int, cs[n]? = some c ∧ x = .int c := by
        rw [List.getElem?_map] at hx
        cases e : cs[n]? with
        | none => rw [e] at hx; cases hx
        | some c => rw [e] at hx; exact ⟨c, rfl, (Option.some.inj hx).symm⟩
      have hn : n < cs.length := (List.getElem?_eq_some_iff.mp hc).1
      have ey : y = spotV cs t n := by
        rw [List.getElem?_map, List.getElem?_range (by omega)] at hy
        exact (Option.some.inj hy).symm
      obtain ⟨s, hs⟩ : ∃ s, ss[n]? = some s := ⟨_, List.getElem?_eq_getElem (by omega)⟩
      obtain ⟨v', hv1, hdz⟩ := dpAll_get hd (i := n) (d := sh2D s) (by rw [List.getElem?_map, hs]; rfl)
      cases Option.some.inj (hz.symm.trans hv1)
      obtain ⟨g5, rfl, hg5⟩ := sh2_inv (dp_same (s1.trans sG) hdz)
      have scc := csg c (List.mem_of_getElem? hc)
      have hp : PS[n]? = some (c, toothN cs n, s.2) := by rw [hPS]; exact pass_at cl hc hs
      have ed : PS.drop n = (c, toothN cs n, s.2) :: PS.drop (n + 1) := (List.getElem_cons_drop (h := (List.getElem?_eq_some_iff.mp hp).1)).symm.trans (by rw [(List.getElem?_eq_some_iff.mp hp).2])
      have sT : Same G (upd G Tp (.tup [.int c, y, .ref g5])) := same_upd nT
      have hT : (upd G Tp (.tup [.int c, y, .ref g5])) Tp = some (.tup [.int c, y, .ref g5]) := upd_same
      generalize upd G Tp _ = G1 at *
      have s2 := (s1.trans sG).trans sT
      have hm1 := Same.tup s2 hm
      have hg51 := Same.tup sT hg5
      refine w_gtup (.of hT) rfl ?_
      walk_at "ct"
      obtain ⟨bv, e1, he1, hin⟩ : ∃ (bv : Bool) (e1 : Int), c * (if bv = true then 1 else 0) = e1 ∧ e1 = (if toothN cs n % t ∈ ms then c else 0) ∧ ∀ Q : VK, Q (.bl bv) G1 → rIn K false y (.ref m) G1 Q := by
        by_cases c0 : c = 0
        · refine ⟨false, 0, Int.mul_zero c, by rw [c0]; split <;> rfl, fun Q hq => ?_⟩
          rw [ey, show spotV cs t n = .non by unfold spotV; rw [hc, c0, if_pos rfl]]
          refine ⟨m, ms.map V.int, rfl, .inr hm1, rfl, ?_, ?_⟩
          · rw [List.all_map]
            exact List.all_eq_true.mpr fun _ _ => rfl
          · rw [if_neg Bool.false_ne_true]
            rw [show inV .non (ms.map V.int) = false from by
              unfold inV
              rw [List.any_map, List.any_eq_false]
              intro y hy z
              cases z]
            exact hq
        · refine ⟨decide (toothN cs n % t ∈ ms), _, rfl, ?_, fun Q hq => ?_⟩
          · by_cases e : toothN cs n % t ∈ ms
            · rw [decide_eq_true e, if_pos rfl, if_pos e, Int.mul_one]
            · rw [decide_eq_false e, if_neg Bool.false_ne_true, if_neg e, Int.mul_zero]
          · rw [ey, show spotV cs t n = .int (toothN cs n % t) by unfold spotV; rw [hc, if_neg (by simpa using c0)]]
            exact w_inT hm1 hq
      refine hin.2 _ ?_
      refine .inr ⟨_, rfl, ?_⟩
      have b1 : c.natAbs < 2 ^ 10 := by
        rcases scc with e | e | e <;> rw [e] <;> decide
      refine w_rIv (.int e1) (wide_mul (a := 10) (b := 10) b1 (by split <;> decide) (by decide) (by decide) (by decide)) (congrArg V.int he1) ?_
      walk_at "ct"
      rw [ed] at eq
      have eq : doesB t ms PS = (decide (s.2 = if toothN cs n % t ∈ ms then c else 0) && doesB t ms (PS.drop (n + 1))) := eq
      rw [← hin.1] at eq
      by_cases e : s.2 = e1
      · rw [decide_eq_true e, Bool.true_and] at eq
        refine w_iteN (fun z => absurd e z) (fun _ => ?_)
        walk_at "ct"
        exact ⟨_, _, _, rfl, sG.trans sT, eq⟩
      · rw [decide_eq_false e, Bool.false_and] at eq
        refine w_iteN (fun _ => ?_) (fun z => absurd z e)
        walk_at "ct"
        rw [eq] at q
        exact q _ s2
    · rintro σ G ⟨y4, y5, y6, rfl, sG, eq⟩
      rw [List.length_map, List.drop_of_length_le (by omega)] at eq
      walk_at "ct"
      rw [show doesB t ms PS = true from eq] at q
      exact q G (s1.trans sG)
abbrev S__law_judged : Stmt := topS 58
theorem sc__law_judged : FnScope ["_law_ways", "_law_shows", "_law_thing", "_law_two_here", "_law_word", "_law_teeth", "_law_marks_here", "_law_bars", "_law_k"] ["_law_ways", "_law_shows", "_law_thing"] (defScope S__law_judged) := ⟨rfl, rfl, rfl, by decide +kernel, rfl, by decide +kernel, by decide +kernel⟩
def sp__law_judged (K : PySem.W.Frag) : Sp := fun vs H Q _ => ∃ (a b : Addr) (cs : List Int) (ws : List V) (ss : List (Int × Int)) (v : V) (d : PyData), vs = [.ref a, .ref b, v] ∧ SqL K H a (cs.map V.int) ∧ SqL K H b ws ∧ DpAll K H ws (ss.map sh2D) ∧ cs.length = ss.length ∧ ss.length ≤ 1000 ∧ (∀ c ∈ cs, c = 0 ∨ Sign c) ∧ Dp K H v d ∧ Bn d 8 2500 ∧
  ∀ H', Same H H' → Q (.bl (rightB (passN cs ss ss.length) d)) H'
theorem ok__law_judged {f : Addr} {fd : FuncData} {f__law_two : Addr} {fd__law_two : FuncData} {f__law_does : Addr} {fd__law_does : FuncData} {f__law_marks : Addr} {fd__law_marks : FuncData} {f__law_whole : Addr} {fd__law_whole : FuncData} {f__law_wrong : Addr} {fd__law_wrong : FuncData} (F : Fun K "_law_judged" "_law_judged" S__law_judged f fd)
    (F__law_two : Fun K "_law_two" "_law_two" S__law_two f__law_two fd__law_two) (b__law_two : Binds K fd__law_two ["_law_ways", "_law_shows", "_law_teeth", "_law_two_here"] []) (g__law_two : mg "_law_two" = some (.ref f__law_two)) (G__law_two : FnOk P w K mg base CX0 2 f__law_two fd__law_two ["_law_ways", "_law_shows", "_law_teeth", "_law_two_here"] (sp__law_two K))
    (F__law_does : Fun K "_law_does" "_law_does" S__law_does f__law_does fd__law_does) (b__law_does : Binds K fd__law_does ["_law_ways", "_law_shows", "_law_teeth", "_law_marks_here"] []) (g__law_does : mg "_law_does" = some (.ref f__law_does)) (G__law_does : FnOk P w K mg base CX0 2 f__law_does fd__law_does ["_law_ways", "_law_shows", "_law_teeth", "_law_marks_here"] (sp__law_does K))
    (F__law_marks : Fun K "_law_marks" "_law_marks" S__law_marks f__law_marks fd__law_marks) (b__law_marks : Binds K fd__law_marks ["_law_teeth", "_law_marks_here"] []) (g__law_marks : mg "_law_marks" = some (.ref f__law_marks)) (G__law_marks : FnOk P w K mg base CX0 2 f__law_marks fd__law_marks ["_law_teeth", "_law_marks_here"] (sp__law_marks K))
    (F__law_whole : Fun K "_law_whole" "_law_whole" S__law_whole f__law_whole fd__law_whole) (b__law_whole : Binds K fd__law_whole ["_law_found"] []) (g__law_whole : mg "_law_whole" = some (.ref f__law_whole)) (G__law_whole : FnOk P w K mg base CX0 1 f__law_whole fd__law_whole ["_law_found"] (sp__law_whole K))
    (F__law_wrong : Fun K "_law_wrong" "_law_wrong" S__law_wrong f__law_wrong fd__law_wrong) (b__law_wrong : Binds K fd__law_wrong ["_law_ways", "_law_shows"] []) (g__law_wrong : mg "_law_wrong" = some (.ref f__law_wrong)) (G__law_wrong : FnOk P w K mg base CX0 1 f__law_wrong fd__law_wrong ["_law_ways", "_law_shows"] (sp__law_wrong K)) (m_all : mg "all" = none) (m_len : mg "len" = none) (m_isinstance : mg "isinstance" = none) (m_tuple : mg "tuple" = none) (m_str : mg "str" = none) (m_list : mg "list" = none) (m_enumerate : mg "enumerate" = none) :
    FnOk P w K mg base CX0 3 f fd ["_law_ways", "_law_shows", "_law_thing"] (sp__law_judged K) := by
  refine F.ok sc__law_judged (fun vs H Q E h => ?_) (fun cdv A outer s H vs Q E hr h => ?_)
  ·
    obtain ⟨a, b, cs, ws, ss, v, d, rfl, _⟩ := h
    rfl
  ·
    obtain ⟨a, b, cs, ws, ss, v, d, rfl, ha, hb, hd, cl, sl, csg, hv, bn, q⟩ := h
    refine ⟨_, (pss_cons (ps_if (PW.pt (pw_or (pt_not (pt_val (pe_callB (r := rIsi K) call_isi (by rfl) m_isinstance (by decide +kernel) (pa_cons (pv 2) (pa_cons (pe_bltn (v := .ty "tuple") (u := .type "tuple") (by rfl) m_tuple (by decide +kernel) rfl) pa_nil))))) (pw_or (pt_cmpR (r := rIn K true) op_notIn_seq (pe_callB call_len_seq (by rfl) m_len (by decide +kernel) (pa_cons (pv 2) pa_nil)) (pe_lst (pa_cons pe_int (pa_cons pe_int pa_nil))) (by rfl)) (pw_or1 (pt_not (pt_val (pe_callB (r := rIsi K) call_isi (by rfl) m_isinstance (by decide +kernel) (pa_cons (pe_ix (r := rIxT K) ix_tup (pv 2) pe_int (fun _ _ => rfl)) (pa_cons (pe_bltn (v := .ty "str") (u := .type "str") (by rfl) m_str (by decide +kernel) rfl) pa_nil))))))))) (pss_one (ps_ret pe_bl)) pss_nil)
      (pss_cons (ps_if (pt_cmpR op_eq (pe_callB call_len_seq (by rfl) m_len (by decide +kernel) (pa_cons (pv 2) pa_nil)) pe_int (nomark _)) (pss_cons (ps_set (i := 3) sc__law_judged.nd rfl (.inl rfl) (pe_slice sl_tup (pv 2) (po_some pe_int) po_none))
      (pss_cons (ps_if (PW.pt (pw_or (pt_cmpR op_ne (pe_ix (r := rIxT K) ix_tup (pv 2) pe_int (fun _ _ => rfl)) pe_str (nomark _)) (pw_or (pt_not (pt_val (pe_call G__law_whole (hr.mono (by decide)) (by rfl) g__law_whole F__law_whole.kp b__law_whole .nil pass0 (pa_cons (pe_ix (r := rIxT K) ix_tup (pv 3) pe_int (fun _ _ => rfl)) pa_nil)))) (pw_or1 (pt_not (pt_val (pe_call G__law_whole (hr.mono (by decide)) (by rfl) g__law_whole F__law_whole.kp b__law_whole .nil pass0 (pa_cons (pe_ix (r := rIxT K) ix_tup (pv 3) pe_int (fun _ _ => rfl)) pa_nil)))))))) (pss_one (ps_ret pe_bl)) pss_nil)
      (pss_cons (ps_if (pt_cmpR op_eq (pe_ix (r := rIxT K) ix_tup (pv 3) pe_int (fun _ _ => rfl)) (pe_ix (r := rIxT K) ix_tup (pv 3) pe_int (fun _ _ => rfl)) (nomark _)) (pss_one (ps_ret (pe_cmpR (r := rIn K false) op_in_seq (pe_ix (r := rIxT K) ix_tup (pv 3) pe_int (fun _ _ => rfl)) (pe_call G__law_wrong (hr.mono (by decide)) (by rfl) g__law_wrong F__law_wrong.kp b__law_wrong .nil pass0 (pa_cons (pv 0) (pa_cons (pv 1) pa_nil))) (by rfl)))) pss_nil)
      (pss_one (ps_ret (pe_call G__law_two (hr.mono (by decide)) (by rfl) g__law_two F__law_two.kp b__law_two .nil pass0 (pa_cons (pv 0) (pa_cons (pv 1) (pa_cons (pe_op op_add (pe_callB call_len_seq (by rfl) m_len (by decide +kernel) (pa_cons (pv 1) pa_nil)) pe_int) (pa_cons (pv 3) pa_nil)))))))))) pss_nil)
      (pss_cons (ps_asg (pv 2) (pg_tup rfl (pgs_cons (pg_name (i := 4) sc__law_judged.nd rfl (.inl rfl)) (pgs_cons (pg_name (i := 5) sc__law_judged.nd rfl (.inl rfl)) (pgs_cons (pg_name (i := 6) sc__law_judged.nd rfl (.inl rfl)) (pgs_cons (pg_name (i := 7) sc__law_judged.nd rfl (.inl rfl)) pgs_nil))))))
      (pss_cons (ps_if (PW.pt (pw_or (pt_cmpR op_ne (pv 4) pe_str (nomark _)) (pw_or (pt_not (pt_val (pe_call G__law_whole (hr.mono (by decide)) (by rfl) g__law_whole F__law_whole.kp b__law_whole .nil pass0 (pa_cons (pv 5) pa_nil)))) (pw_or (pt_cmpR op_lt (pv 5) pe_int (nomark _)) (pw_or1 (pt_not (pt_val (pe_call G__law_marks (hr.mono (by decide)) (by rfl) g__law_marks F__law_marks.kp b__law_marks .nil pass0 (pa_cons (pv 5) (pa_cons (pv 6) pa_nil)))))))))) (pss_one (ps_ret pe_bl)) pss_nil)
      (pss_cons (ps_if (PW.pt (pw_or (pt_not (pt_val (pe_callB (r := rIsi K) call_isi (by rfl) m_isinstance (by decide +kernel) (pa_cons (pv 7) (pa_cons (pe_bltn (v := .ty "list") (u := .type "list") (by rfl) m_list (by decide +kernel) rfl) pa_nil))))) (pw_or (pt_cmpR op_ne (pe_callB call_len_seq (by rfl) m_len (by decide +kernel) (pa_cons (pv 7) pa_nil)) (pe_op op_sub (pv 5) pe_int) (nomark _)) (pw_or1 (pt_not (pt_val (pe_call G__law_does (hr.mono (by decide)) (by rfl) g__law_does F__law_does.kp b__law_does .nil pass0 (pa_cons (pv 0) (pa_cons (pv 1) (pa_cons (pv 5) (pa_cons (pv 6) pa_nil))))))))))) (pss_one (ps_ret pe_bl)) pss_nil)
      (pss_one (ps_ret (pe_callB (r := rAll K) (cr_all rfl) (by rfl) m_all (by decide +kernel) (pa_cons (pe_lc (own := [("_law_k", 8), ("_law_two_here", 3)]) (g := gTup K 2 (gCons (gName 8) (gCons (gName 3) gNil)))  rfl sc__law_judged.nd  (pi_enum (by rfl) m_enumerate (pa_cons (pv 7) pa_nil)) (blkOk_by (own := [("_law_k", 8), ("_law_two_here", 3)]) (N := ["_law_ways", "_law_shows", "_law_thing", "_law_two_here", "_law_word", "_law_teeth", "_law_marks_here", "_law_bars", "_law_k"]) (sc := defScope S__law_judged) (by decide +kernel)) (fun _ _ _ _ _ => pg_tup rfl (pgs_cons (pg_name (i := 8) sc__law_judged.nd rfl (Or.inl rfl)) (pgs_cons (pg_name (i := 3) sc__law_judged.nd rfl (Or.inl rfl)) pgs_nil))) (fun _ _ _ _ _ => pts_nil) (fun _ _ _ _ _ => (pe_call G__law_two (hr.mono (by decide)) (by rfl) g__law_two F__law_two.kp b__law_two .nil pass0 (pa_cons (pv 0) (pa_cons (pv 1) (pa_cons (pe_op op_add (pv 8) pe_int) (pa_cons (pv 3) pa_nil))))))) pa_nil))))))))), ?_⟩
    refine w_st (σ' := [some (.ref a), some (.ref b), some v, none, none, none, none, none, none]) rfl ?_
    have wl : ws.length = ss.length := by rw [dpAll_len hd, List.length_map]
    obtain ⟨ps, hps⟩ : ∃ ps, ps = passN cs ss ss.length := ⟨_, rfl⟩
    have pl : ps.length = ss.length := by rw [hps]; exact pass_len cl
    have wk : Walky ps := by
      rw [hps]
      exact walky_pass (fun c hc => by rcases csg c hc with e | e | e <;> rw [e] <;> decide) cl
    have ml := bn.marks (by decide)
    rw [← hps] at q
    walk_at "ct"
    cases hv with
    | non =>
      refine w_isi (b := false) (.base .non) (kit_ty (by decide +kernel)) ?_
      walk_at "ct"
      exact q H (Same.refl _)
    | bl b =>
      refine w_isi (b := false) (.base (.bl b)) (kit_ty (by decide +kernel)) ?_
      walk_at "ct"
      exact q H (Same.refl _)
    | int i =>
      refine w_isi (b := false) (.base (.int i)) (kit_ty (by decide +kernel)) ?_
      walk_at "ct"
      exact q H (Same.refl _)
    | str x =>
      refine w_isi (b := false) (.base (.str x)) (kit_ty (by decide +kernel)) ?_
      walk_at "ct"
      exact q H (Same.refl _)
    | lst hs ht =>
      refine w_isi (b := false) (tyx_L hs) (kit_ty (by decide +kernel)) ?_
      walk_at "ct"
      exact q H (Same.refl _)
    | @tup g xs ds hs ht =>
      refine w_isi (b := true) (tyx_T hs) (kit_ty (by decide +kernel)) ?_
      walk_at "ct"
      refine ⟨_, _, rfl, .inr hs, ?_⟩
      walk_at "ct"
      refine ⟨len2 rfl, fun g0 ng0 => ?_⟩
      have s0 : Same H (upd H g0 (.lst [.int 3, .int 4])) := same_upd ng0
      have hg0 : (upd H g0 (.lst [.int 3, .int 4])) g0 = some (.lst [.int 3, .int 4]) := upd_same
      generalize upd H g0 _ = H0 at *
      have hs0 := Same.tup s0 hs
      have hxl := dpAll_len ht
      refine w_ninL (ns := [3, 4]) (.of hg0) ?_
      walk_at "ct"
      refine w_iteN (fun e => ?_) (fun e => ?_)
      · walk_at "ct"
        have e0 : rightB ps (.tuple ds) = false := by
          match ds, hxl, e with
          | [], _, _ => rfl
          | [_], _, _ => rfl
          | [_, _], _, _ => rfl
          | [_, _, _], h, e => exact absurd (by rw [h]; exact List.mem_cons_self) e
          | [_, _, _, _], h, e => exact absurd (by rw [h]; exact List.mem_cons_of_mem _ List.mem_cons_self) e
          | _ :: _ :: _ :: _ :: _ :: _, _, _ => rfl
        rw [e0] at q
        exact q H0 s0
      have e34 : xs.length = 3 ∨ xs.length = 4 := by
        simp only [List.mem_cons, List.not_mem_nil, or_false] at e
        omega
      cases ht with
      | nil => simp at e34
      | cons h1 t1 =>
      rename_i v1 vr d1 dr
      walk_at "ct"
      by_cases st : ∃ x, d1 = .str x
      · obtain ⟨x, rfl⟩ := st
        cases h1
        refine w_isi (b := true) (.base (.str x)) (kit_ty (by decide +kernel)) ?_
        walk_at "ct"
        refine ⟨g, _, rfl, .inr hs0, ?_⟩
        walk_at "ct"
        cases t1 with
        | nil => simp at e34
        | cons h2 t2 =>
        cases t2 with
        | nil => simp at e34
        | cons h3 t3 =>
        cases t3 with
        | nil =>
          rename_i v2 d2 v3 d3
          refine w_ite (fun _ => ?_) (fun z => absurd rfl z)
          walk_at "ct"
          refine ⟨g, _, rfl, hs0, fun z => absurd z.1 (show ¬ HT.sIx 3 0 (some 1) = 0 by decide), fun tw ntw => ?_⟩
          rw [show cutV [V.str x, v2, v3] (some 1) none = [v2, v3] from rfl] at *
          have u1 : Same H0 (upd H0 tw (.tup [v2, v3])) := same_upd ntw
          have htw : (upd H0 tw (.tup [v2, v3])) tw = some (.tup [v2, v3]) := upd_same
          generalize upd H0 tw _ = H1 at *
          have s1 := s0.trans u1
          have hs1 := Same.tup u1 hs0
          have h2' := dp_same s1 h2
          have h3' := dp_same s1 h3
          have htw' : SqT K H1 tw [v2, v3] := .of htw
          rw [rightB_w3] at q
          walk_at "ct"
          by_cases en : x = "none"
          · subst en
            rw [decide_eq_true rfl, Bool.true_and] at q
            refine w_rNeW (b := false) (by rw [decide_eq_true rfl]; rfl) ?_
            walk_at "ct"
            refine ⟨_, _, rfl, h2', ?_⟩
            cases e2 : isW d2 with
            | false =>
              rw [tnB_l e2] at q
              walk_at "ct"
              exact q H1 s1
            | true =>
            obtain ⟨j, rfl⟩ := isW_int e2
            cases h2'
            walk_at "ct"
            refine ⟨_, _, rfl, h3', ?_⟩
            cases e3 : isW d3 with
            | false =>
              rw [tnB_r e3] at q
              walk_at "ct"
              exact q H1 s1
            | true =>
            obtain ⟨k, rfl⟩ := isW_int e3
            cases h3'
            walk_at "ct"
            refine w_ite (fun z => ?_) (fun z => ?_)
            · subst z
              rw [none_same] at q
              walk_at "ct"
              refine ⟨a, b, cs, ws, ss, rfl, s1.seq ha, s1.seq hb, dpAll_same s1 hd, cl, by omega, fun l H2 s2 nl hl => ?_⟩
              rw [← hps] at hl
              refine w_inL (.of hl) ?_
              rw [pl] at q
              exact q H2 (s1.trans s2)
            · rw [none_two wk z] at q
              walk_at "ct"
              refine ⟨b, ws, rfl, .inl (s1.seq hb), ?_⟩
              walk_at "ct"
              refine ⟨a, b, cs, ws, ss, _, .ref tw, _, rfl, s1.seq ha, s1.seq hb, dpAll_same s1 hd, cl, by omega, by omega, .tup htw' (.cons (.int j) (.cons (.int k) .nil)), fun H2 s2 => ?_⟩
              rw [← hps, wl, ← pl]
              exact q H2 (s1.trans s2)
          · rw [decide_eq_false en, Bool.false_and] at q
            refine w_rNeW (b := true) (by rw [decide_eq_false (fun z => en (V.str.inj z))]; rfl) ?_
            walk_at "ct"
            exact q H1 s1
        | cons h4 t4 =>
        cases t4 with
        | cons h5 t5 => simp only [List.length_cons] at e34; omega
        | nil =>
          rename_i v2 d2 v3 d3 v4 d4
          refine w_ite (fun z => absurd z (show ¬ ((4 : Nat) : Int) = 3 by decide)) (fun _ => ?_)
          walk_at "ct"
          refine w_gtup hs0 rfl ?_
          walk_at "ct"
          rw [rightB_w4] at q
          have h2' := dp_same s0 h2
          have h3' := dp_same s0 h3
          have h4' := dp_same s0 h4
          have ml3 : ∀ ds, d3 = .tuple ds → ds.length ≤ 4000 := fun ds e => by
            have b3 := (bn.ins (n := 7)).tail.tail.head
            rw [e] at b3
            have := (b3.ins (n := 6)).len
            omega
          by_cases en : x = "wheel"
          · subst en
            rw [decide_eq_true rfl, Bool.true_and] at q
            refine w_rNeW (b := false) (by rw [decide_eq_true rfl]; rfl) ?_
            walk_at "ct"
            refine ⟨_, _, rfl, h2', ?_⟩
            cases e2 : isW d2 with
            | false =>
              rw [twB_l e2] at q
              walk_at "ct"
              exact q H0 s0
            | true =>
            obtain ⟨t, rfl⟩ := isW_int e2
            cases h2'
            walk_at "ct"
            refine w_ite (fun z => ?_) (fun z => ?_)
            · walk_at "ct"
              rw [twB_low z] at q
              exact q H0 s0
            walk_at "ct"
            refine ⟨t, v3, d3, rfl, h3', ml3, fun H1 u1 => ?_⟩
            have s1 := s0.trans u1
            cases em : areM d3 t with
            | false =>
              refine ⟨false, rfl, ?_⟩
              rw [twB_nomarks em] at q
              walk_at "ct"
              exact q H1 s1
            | true =>
            refine ⟨true, rfl, ?_⟩
            obtain ⟨ms, rfl, rs, em2⟩ := areM_inv em
            obtain ⟨m, rfl, hm⟩ := tupD_inv (dp_same u1 h3')
            walk_at "ct"
            by_cases sb : ∃ bs, d4 = .list bs
            · obtain ⟨bs, rfl⟩ := sb
              obtain ⟨bl, us, rfl, hbl, hbs⟩ := lst_inv (dp_same u1 h4')
              have ubl := dpAll_len hbs
              refine w_isi (b := true) (tyx_L hbl) (kit_ty (by decide +kernel)) ?_
              walk_at "ct"
              refine ⟨bl, us, rfl, .inl hbl, ?_⟩
              walk_at "ct"
              rw [twB_at, decide_eq_true (show 1 ≤ t by omega), Bool.true_and, em, Bool.true_and, em2] at q
              refine w_iteN (fun z => ?_) (fun z => ?_)
              · walk_at "ct"
                rw [decide_eq_false (by omega), Bool.false_and] at q
                exact q H1 s1
              rw [decide_eq_true (by omega), Bool.true_and] at q
              walk_at "ct"
              refine ⟨a, b, m, cs, ws, ss, t, ms, rfl, s1.seq ha, s1.seq hb, dpAll_same s1 hd, cl, sl, by omega, hm, csg, fun H2 u2 => ?_⟩
              rw [← hps]
              cases ed : doesB t ms ps with
              | false =>
                refine ⟨false, rfl, ?_⟩
                rw [ed, Bool.and_false] at q
                walk_at "ct"
                exact q H2 (s1.trans u2)
              | true =>
                refine ⟨true, rfl, ?_⟩
                rw [ed, Bool.and_true, ← twosF_all] at q
                have s2 := s1.trans u2
                have bl2 : bs.length ≤ 2500 := by
                  have b4 := (bn.ins (n := 7)).tail.tail.tail.head
                  have : BnA bs 6 2500 := ⟨b4.ok, b4.lay, by have := b4.dep; rw [PyData.depth] at this; omega, b4.bk⟩
                  exact this.len
                walk_at "ct"
                refine w_IE (u2.seq hbl) ?_
                refine lb_enum us (fun D2 n G => Same H2 G ∧ G D2 = some (.lst (((twosF ps 0 bs).take n).map V.bl))) (fun D2 hD2 => ⟨same_upd hD2, upd_same⟩) (fun D2 hD2 n G _ h => (u2.trans h.1).seq hbl) ?_ ?_
                · rintro D2 hD2 n y Tp G hy ⟨sG, hG⟩ nT
                  have hn : n < us.length := (List.getElem?_eq_some_iff.mp hy).1
                  obtain ⟨e, he⟩ : ∃ e, bs[n]? = some e := ⟨_, List.getElem?_eq_getElem (by omega)⟩
                  obtain ⟨y', hy', hde⟩ := dpAll_get hbs he
                  cases Option.some.inj (hy.symm.trans hy')
                  have sT : Same G (upd G Tp (.tup [.int (n : Nat), y])) := same_upd nT
                  have hT : (upd G Tp (.tup [.int (n : Nat), y])) Tp = some (.tup [.int (n : Nat), y]) := upd_same
                  generalize upd G Tp _ = G1 at *
                  have s3 := sG.trans sT
                  have hG3 := sT _ _ hG
                  refine w_gtup (.of hT) rfl ?_
                  walk_at "ct"
                  refine ⟨rfl, ?_⟩
                  walk_at "ct"
                  refine ⟨a, b, cs, ws, ss, _, y, e, rfl, (s2.trans s3).seq ha, (s2.trans s3).seq hb, dpAll_same (s2.trans s3) hd, cl, sl, by omega, dp_same (u2.trans s3) hde, fun G2 s4 => ?_⟩
                  rw [← hps]
                  refine ⟨_, s4 _ _ hG3, ?_, same_new (s3.trans s4) hD2, ?_⟩
                  · rw [List.length_map, List.length_take]
                    exact Nat.lt_of_le_of_lt (show min n _ ≤ 2500 by omega) (by decide)
                  · rw [upd_same, List.take_add_one, twosF_get ps bs 0 n e he, List.map_append, Nat.zero_add]
                    rfl
                rintro D2 nD2 H3 ⟨s3, hD2⟩
                rw [List.take_of_length_le (by rw [twosF_len]; omega)] at hD2
                walk_at "ct"
                refine ⟨D2, twosF ps 0 bs, rfl, .of hD2, ?_⟩
                exact q H3 (s2.trans s3)
            · have no : ∀ bs, d4 ≠ .list bs := fun bs e => sb ⟨bs, e⟩
              rw [twB_nolist no] at q
              have h4'' := dp_same u1 h4'
              cases h4'' with
              | non =>
                refine w_isi (b := false) (.base .non) (kit_ty (by decide +kernel)) ?_
                walk_at "ct"
                exact q H1 s1
              | bl b =>
                refine w_isi (b := false) (.base (.bl b)) (kit_ty (by decide +kernel)) ?_
                walk_at "ct"
                exact q H1 s1
              | int i =>
                refine w_isi (b := false) (.base (.int i)) (kit_ty (by decide +kernel)) ?_
                walk_at "ct"
                exact q H1 s1
              | str x =>
                refine w_isi (b := false) (.base (.str x)) (kit_ty (by decide +kernel)) ?_
                walk_at "ct"
                exact q H1 s1
              | lst hs2 ht2 => exact absurd rfl (no _)
              | tup hs2 ht2 =>
                refine w_isi (b := false) (tyx_T hs2) (kit_ty (by decide +kernel)) ?_
                walk_at "ct"
                exact q H1 s1
          · rw [decide_eq_false en, Bool.false_and] at q
            refine w_rNeW (b := true) (by rw [decide_eq_false (fun z => en (V.str.inj z))]; rfl) ?_
            walk_at "ct"
            exact q H0 s0
      · have no : ∀ x, d1 ≠ .str x := fun x e => st ⟨x, e⟩
        rw [rightB_no no] at q
        cases h1 with
        | non =>
          refine w_isi (b := false) (.base .non) (kit_ty (by decide +kernel)) ?_
          walk_at "ct"
          exact q H0 s0
        | bl b =>
          refine w_isi (b := false) (.base (.bl b)) (kit_ty (by decide +kernel)) ?_
          walk_at "ct"
          exact q H0 s0
        | int i =>
          refine w_isi (b := false) (.base (.int i)) (kit_ty (by decide +kernel)) ?_
          walk_at "ct"
          exact q H0 s0
        | str x => exact absurd rfl (no x)
        | lst hs2 ht2 =>
          refine w_isi (b := false) (tyx_L (s0.seq hs2)) (kit_ty (by decide +kernel)) ?_
          walk_at "ct"
          exact q H0 s0
        | tup hs2 ht2 =>
          refine w_isi (b := false) (tyx_T (Same.tup s0 hs2)) (kit_ty (by decide +kernel)) ?_
          walk_at "ct"
          exact q H0 s0
abbrev S__law_pairs : Stmt := topS 59
theorem sc__law_pairs : FnScope ["_law_ways", "_law_shows", "_law_teeth", "_law_spots_here", "_law_found", "_law_known", "_law_k", "_law_one", "_law_j"] ["_law_ways", "_law_shows", "_law_teeth"] (defScope S__law_pairs) := ⟨rfl, rfl, rfl, by decide +kernel, rfl, by decide +kernel, by decide +kernel⟩
def sp__law_pairs (K : PySem.W.Frag) : Sp := fun vs H Q _ => ∃ (a b : Addr) (cs : List Int) (ws : List V) (ss : List (Int × Int)) (t : Int), vs = [.ref a, .ref b, .int t] ∧ SqL K H a (cs.map V.int) ∧ SqL K H b ws ∧ DpAll K H ws (ss.map sh2D) ∧ cs.length = ss.length ∧ ss.length ≤ 320 ∧ 1 ≤ t ∧
  ∀ l us (bars : List (Nat × Nat)) H', Same H H' → H l = none → H' l = some (.lst us) → DpAll K H' us (bars.map barD) → (∀ x ∈ bars, x.1 < x.2 ∧ Hit (passN cs ss ss.length) t x.1 x.2) → (freeB (passN cs ss ss.length) t = false → bars ≠ []) → Q (.ref l) H'
theorem ok__law_pairs {f : Addr} {fd : FuncData} {f__law_spots : Addr} {fd__law_spots : FuncData} (F : Fun K "_law_pairs" "_law_pairs" S__law_pairs f fd)
    (F__law_spots : Fun K "_law_spots" "_law_spots" S__law_spots f__law_spots fd__law_spots) (b__law_spots : Binds K fd__law_spots ["_law_ways", "_law_teeth"] []) (g__law_spots : mg "_law_spots" = some (.ref f__law_spots)) (G__law_spots : FnOk P w K mg base CX0 1 f__law_spots fd__law_spots ["_law_ways", "_law_teeth"] (sp__law_spots K)) (m_range : mg "range" = none) (m_len : mg "len" = none) (m_int : mg "int" = none) :
    FnOk P w K mg base CX0 2 f fd ["_law_ways", "_law_shows", "_law_teeth"] (sp__law_pairs K) := by
  refine F.ok sc__law_pairs (fun vs H Q E h => ?_) (fun cdv A outer s H vs Q E hr h => ?_)
  ·
    obtain ⟨a, b, cs, ws, ss, t, rfl, _⟩ := h
    rfl
  ·
    obtain ⟨a, b, cs, ws, ss, t, rfl, ha, hb, hd, cl, sl, t1, q⟩ := h
    refine ⟨_, (pss_cons (ps_set (i := 3) sc__law_pairs.nd rfl (.inl rfl) (pe_call G__law_spots (hr.mono (by decide)) (by rfl) g__law_spots F__law_spots.kp b__law_spots .nil pass0 (pa_cons (pv 0) (pa_cons (pv 2) pa_nil))))
      (pss_cons (ps_set (i := 4) sc__law_pairs.nd rfl (.inl rfl) (pe_lst pa_nil))
      (pss_cons (ps_set (i := 5) sc__law_pairs.nd rfl (.inl rfl) (pe_dnewO (P0 := P) (w0 := w) rfl rfl))
      (pss_cons (ps_for PassesOwn.never rfl (pi_range1 (by rfl) m_range (pa_cons (pe_op op_mulW (pe_callB call_len_seq (by rfl) m_len (by decide +kernel) (pa_cons (pv 1) pa_nil)) (pe_callTy call_int1 (by rfl) m_int (by decide +kernel) (pa_cons (pe_cmpR op_gt (pe_callB call_len_seq (by rfl) m_len (by decide +kernel) (pa_cons (pv 1) pa_nil)) pe_int (nomark _)) pa_nil))) pa_nil)) (pg_name (i := 6) sc__law_pairs.nd rfl (.inl rfl))
      (pss_cons (ps_set (i := 7) sc__law_pairs.nd rfl (.inl rfl) (pe_bmO (r := rSetO P w) rfl rfl PySem.F.plainAttrs_dict PySem.F.slot_dict_setdefault PySem.F.type_dict_setdefault mt_setO (pv 5) (pa_cons (pe_ix (r := rIxL K) ix_list (pv 3) (pv 6) (fun _ _ => rfl)) (pa_cons (pv 6) pa_nil))))
      (pss_one (ps_if (PW.pt (pw_and (pt_cmpR op_notN (pe_ix (r := rIxL K) ix_list (pv 3) (pv 6) (fun _ _ => rfl)) pe_non (nomark _)) (pw_and1 (pt_cmpR op_ne (pe_cmpR op_eq (pe_ix (r := rIxT K) ix_tup (pe_ix (r := rIxL K) ix_list (pv 1) (pv 7) (fun _ _ => rfl)) pe_int (fun _ _ => rfl)) pe_int (nomark _)) (pe_cmpR op_eq (pe_ix (r := rIxT K) ix_tup (pe_ix (r := rIxL K) ix_list (pv 1) (pv 6) (fun _ _ => rfl)) pe_int (fun _ _ => rfl)) pe_int (nomark _)) (nomark _))))) (pss_one (ps_ret (pe_lst (pa_cons (pe_tup (pa_cons (pv 7) (pa_cons (pv 6) pa_nil))) pa_nil)))) pss_nil))))
      (pss_cons (ps_for PassesOwn.never rfl (pi_range1 (by rfl) m_range (pa_cons (pe_callB call_len_seq (by rfl) m_len (by decide +kernel) (pa_cons (pv 1) pa_nil)) pa_nil)) (pg_name (i := 6) sc__law_pairs.nd rfl (.inl rfl))
      (pss_one (ps_for PassesOwn.never rfl (pi_range1 (by rfl) m_range (pa_cons (pv 6) pa_nil)) (pg_name (i := 8) sc__law_pairs.nd rfl (.inl rfl))
      (pss_one (ps_if (PW.pt (pw_and (pt_cmpR op_notN (pe_ix (r := rIxL K) ix_list (pv 3) (pv 8) (fun _ _ => rfl)) pe_non (nomark _)) (pw_and (pt_cmpR op_eq (pe_ix (r := rIxL K) ix_list (pv 3) (pv 8) (fun _ _ => rfl)) (pe_ix (r := rIxL K) ix_list (pv 3) (pv 6) (fun _ _ => rfl)) (nomark _)) (pw_and1 (pt_cmpR op_ne (pe_cmpR op_eq (pe_ix (r := rIxT K) ix_tup (pe_ix (r := rIxL K) ix_list (pv 1) (pv 8) (fun _ _ => rfl)) pe_int (fun _ _ => rfl)) pe_int (nomark _)) (pe_cmpR op_eq (pe_ix (r := rIxT K) ix_tup (pe_ix (r := rIxL K) ix_list (pv 1) (pv 6) (fun _ _ => rfl)) pe_int (fun _ _ => rfl)) pe_int (nomark _)) (nomark _)))))) (pss_one (ps_expr (pe_bm PySem.F.plainAttrs_list PySem.F.slot_list_append PySem.F.type_list_append mt_append (pv 4) (pa_cons (pe_tup (pa_cons (pv 8) (pa_cons (pv 6) pa_nil))) pa_nil)))) pss_nil)))))
      (pss_one (ps_ret (pv 4)))))))), ?_⟩
    refine w_st (σ' := [some (.ref a), some (.ref b), some (.int t), none, none, none, none, none, none]) rfl ?_
    have wl : ws.length = ss.length := by rw [dpAll_len hd, List.length_map]
    walk_at "ct"
    refine ⟨a, cs, t, rfl, ha, t1, by omega, fun sp H1 s1 nsp hsp => ?_⟩
    walk_at "ct"
    refine ⟨len2 rfl, fun l nl => ?_⟩
    have s2 : Same H1 (upd H1 l (.lst [])) := same_upd nl
    have hl : (upd H1 l (.lst [])) l = some (.lst []) := upd_same
    generalize upd H1 l _ = H2 at *
    walk_at "ct"
    refine w_odnew fun kd nkd => ?_
    have s3 : Same H2 (upd H2 kd (OdO P w kd 0 fun _ _ => False)) := same_upd nkd
    have hkd : (upd H2 kd (OdO P w kd 0 fun _ _ => False)) kd = some (OdO P w kd 0 fun _ _ => False) := upd_same
    generalize upd H2 kd _ = H3 at *
    have s23 := s2.trans s3
    have nkd1 : H1 kd = none := s2.free nkd
    have lk : l ≠ kd := fun z => by rw [← z, hl] at nkd; cases nkd
    have hb1 := s1.seq hb
    have hd1 := dpAll_same s1 hd
    have atS : ∀ i, i < ss.length → ((List.range cs.length).map (spotV cs t))[i]? = some (oV (spotO cs t i)) := fun i hi => by
      rw [List.getElem?_map, List.getElem?_range (by omega)]
      show some (spotV cs t i) = _
      unfold spotV spotO
      split <;> rfl
    walk_at "ct"
    refine ⟨b, ws, rfl, .inl (s23.seq hb1), ?_⟩
    walk_at "ct"
    refine ⟨b, ws, rfl, .inl (s23.seq hb1), ?_⟩
    walk_at "ct"
    refine .inr ⟨_, rfl, ?_⟩
    obtain ⟨N, hN, Nl⟩ : ∃ N : Nat, (ws.length : Int) * (if decide ((ws.length : Int) > 100) = true then 1 else 0) = (N : Int) ∧ N ≤ ss.length := by
      split
      · exact ⟨ws.length, Int.mul_one _, by omega⟩
      · exact ⟨0, Int.mul_zero _, by omega⟩
    refine w_rIv (.int (N : Int)) (wide_mul (a := 10) (b := 10) (by omega) (by split <;> decide) (by decide) (by decide) (by decide)) (congrArg V.int hN) ?_
    walk_at "ct"
    refine w_RG1 (by omega) (by omega) ?_
    refine fb_range (fun i σ G => ∃ (y6 y7 : Option V) (us : List V) (bars : List (Nat × Nat)), σ = [some (.ref a), some (.ref b), some (.int t), some (.ref sp), some (.ref l), some (.ref kd), y6, y7, none] ∧ Same H1 G ∧ G l = some (.lst us) ∧ DpAll K G us (bars.map barD) ∧ G kd = some (OdO P w kd i (SpK cs t i)) ∧ bars.length ≤ i ∧ ∀ x ∈ bars, x.1 < x.2 ∧ Hit (passN cs ss ss.length) t x.1 x.2)
      ⟨none, none, [], [], rfl, s23, s3 _ _ hl, .nil, ?_, Nat.le_refl _, (fun _ z => nomatch z)⟩ ?_ ?_
    · rw [show SpK cs t 0 = fun _ _ => False from funext fun o => funext fun j => propext ⟨fun ⟨_, _, h, _⟩ => absurd h (Nat.not_lt_zero _), False.elim⟩]
      exact hkd
    · rintro i σ G hi ⟨y6, y7, us, bars, rfl, sG, hG, hu, hk, bl, ok⟩
      have hi2 : i < ss.length := by omega
      have ul : us.length = bars.length := by rw [dpAll_len hu, List.length_map]
      obtain ⟨z, hz⟩ : ∃ z, ss[i]? = some z := ⟨_, List.getElem?_eq_getElem hi2⟩
      rw [Int.zero_add (i : Int)]
      walk_at "ct"
      refine w_bmO ?_
      walk_at "ct"
      refine ⟨⟨kd, i, _, rfl, hk⟩, ?_⟩
      walk_at "ct"
      refine w_ixL (.of (sG _ _ hsp)) (at_of (j := i) rfl (atS i hi2)) ?_
      walk_at "ct"
      refine ⟨kd, i, SpK cs t i, SpK cs t (i + 1), spotO cs t i, (i : Int), rfl, rfl, hk, small1000 (by omega), fun o j ⟨jn, e, l, h⟩ => ⟨jn, e, by omega, h⟩, ⟨i, rfl, by omega, rfl⟩, fun j hj => ?_⟩
      obtain ⟨jn, rfl, jl, je⟩ : ∃ jn : Nat, j = (jn : Int) ∧ jn ≤ i ∧ spotO cs t jn = spotO cs t i := by
        rcases hj with ⟨jn, e, l, h⟩ | e
        · exact ⟨jn, e, by omega, h.symm⟩
        · exact ⟨i, e, Nat.le_refl _, rfl⟩
      have sK : Same H1 (upd G kd (OdO P w kd (i + 1) (SpK cs t (i + 1)))) := same_new sG nkd1
      have hl2 : (upd G kd (OdO P w kd (i + 1) (SpK cs t (i + 1)))) l = some (.lst us) := by rw [upd_ne lk]; exact hG
      have hu2 := dpAll_but (H' := upd G kd (OdO P w kd (i + 1) (SpK cs t (i + 1)))) ⟨_, hk⟩ but_upd hu
      have hk2 : (upd G kd (OdO P w kd (i + 1) (SpK cs t (i + 1)))) kd = some (OdO P w kd (i + 1) (SpK cs t (i + 1))) := upd_same
      generalize upd G kd _ = G1 at *
      walk_at "ct"
      refine w_ixL (.of (sK _ _ hsp)) (at_of (j := i) rfl (atS i hi2)) ?_
      walk_at "ct"
      refine ⟨rfl, ?_⟩
      cases eo : spotO cs t i with
      | none =>
        refine ⟨false, rfl, ?_⟩
        walk_at "ct"
        exact ⟨_, _, us, bars, rfl, sK, hl2, hu2, hk2, by omega, ok⟩
      | some r =>
        refine ⟨true, rfl, ?_⟩
        obtain ⟨zj, hzj⟩ : ∃ z, ss[jn]? = some z := ⟨_, List.getElem?_eq_getElem (by omega)⟩
        obtain ⟨vj, hvj, hdj⟩ := dpAll_get hd1 (i := jn) (d := sh2D zj) (by rw [List.getElem?_map, hzj]; rfl)
        obtain ⟨vk, hvk, hdk⟩ := dpAll_get hd1 (i := i) (d := sh2D z) (by rw [List.getElem?_map, hz]; rfl)
        obtain ⟨gj, rfl, hgj⟩ := sh2_inv (dp_same sK hdj)
        obtain ⟨gk, rfl, hgk⟩ := sh2_inv (dp_same sK hdk)
        walk_at "ct"
        refine w_ixL (sK.seq hb1) (at_of (j := jn) rfl hvj) ?_
        walk_at "ct"
        refine w_ixL (sK.seq hb1) (at_of (j := i) rfl hvk) ?_
        walk_at "ct"
        refine ⟨rfl, ?_⟩
        rw [show (!decide (V.bl (decide (zj.2 = 0)) = V.bl (decide (z.2 = 0)))) = (decide (zj.2 = 0) != decide (z.2 = 0)) by
          cases decide (zj.2 = 0) <;> cases decide (z.2 = 0) <;> rfl]
        cases un : (decide (zj.2 = 0) != decide (z.2 = 0)) with
        | false =>
          walk_at "ct"
          exact ⟨_, _, us, bars, rfl, sK, hl2, hu2, hk2, by omega, ok⟩
        | true =>
          have jlt : jn < i := by
            rcases Nat.lt_or_ge jn i with c | c
            · exact c
            · have : jn = i := by omega
              subst this
              cases Option.some.inj (hz.symm.trans hzj)
              rw [bne_self_eq_false] at un
              cases un
          have hit := spot_hit cl hzj hz je (by rw [eo]; exact fun z => nomatch z) un
          walk_at "ct"
          refine ⟨len2 rfl, fun g ng => ?_⟩
          have u1 : Same G1 (upd G1 g (.tup [.int (jn : Int), .int (i : Int)])) := same_upd ng
          have hg : (upd G1 g (.tup [.int (jn : Int), .int (i : Int)])) g = some (.tup [.int (jn : Int), .int (i : Int)]) := upd_same
          generalize upd G1 g _ = G2 at *
          walk_at "ct"
          refine ⟨len2 rfl, fun g2 ng2 => ?_⟩
          have u2 : Same G2 (upd G2 g2 (.lst [.ref g])) := same_upd ng2
          have hg2 : (upd G2 g2 (.lst [.ref g])) g2 = some (.lst [.ref g]) := upd_same
          generalize upd G2 g2 _ = G3 at *
          have s13 := s1.trans (sK.trans (u1.trans u2))
          walk_at "ct"
          refine q g2 [.ref g] [(jn, i)] G3 s13 ((s1.trans (sK.trans u1)).free ng2) hg2 (.cons (.tup (.of (u2 _ _ hg)) (.cons (.int _) (.cons (.int _) .nil))) .nil) (fun x hx => ?_) (fun _ z => nomatch z)
          rw [List.mem_singleton.mp hx]
          exact ⟨jlt, hit⟩
    · rintro σ G ⟨y6, y7, us, bars, rfl, sG, hG, hu, hk, bl, ok⟩
      have ul : us.length = bars.length := by rw [dpAll_len hu, List.length_map]
      have sG1 := s1.trans sG
      walk_at "ct"
      refine ⟨b, ws, rfl, .inl (sG.seq hb1), ?_⟩
      walk_at "ct"
      obtain ⟨M, hM, Mb⟩ : ∃ M : Nat, ws.length = M ∧ (M = ss.length ∨ bars ≠ []) := ⟨_, rfl, .inl wl⟩
      have s0 := sG
      have hl0 := hG
      have hu0 := hu
      rw [hM]
      refine w_RG1 (by omega) (by omega) ?_
      refine fb_range (fun i σ J => ∃ (y6 y8 : Option V) (us : List V) (bars : List (Nat × Nat)), σ = [some (.ref a), some (.ref b), some (.int t), some (.ref sp), some (.ref l), some (.ref kd), y6, y7, y8] ∧ Same H1 J ∧ J l = some (.lst us) ∧ DpAll K J us (bars.map barD) ∧ bars.length ≤ 320 + 320 * i ∧ (∀ x ∈ bars, x.1 < x.2 ∧ Hit (passN cs ss ss.length) t x.1 x.2) ∧ ((M = ss.length ∧ NoHit (passN cs ss ss.length) t i) ∨ bars ≠ []))
        ⟨y6, none, us, bars, rfl, s0, hl0, hu0, by omega, ok, Mb.imp (fun e => ⟨e, fun j k _ kn => absurd kn (Nat.not_lt_zero _)⟩) id⟩ ?_ ?_
      · rintro i σ J hi ⟨y6, y8, us, bars, rfl, sJ, hJ, hv, bl, ok, nh⟩
        have hi2 : i < ss.length := by omega
        obtain ⟨z, hz⟩ : ∃ z, ss[i]? = some z := ⟨_, List.getElem?_eq_getElem hi2⟩
        rw [Int.zero_add (i : Int)]
        walk_at "ct"
        refine w_RG1 (by omega) (by omega) ?_
        refine fb_range (fun j σ J => ∃ (y8 : Option V) (us : List V) (bars : List (Nat × Nat)), σ = [some (.ref a), some (.ref b), some (.int t), some (.ref sp), some (.ref l), some (.ref kd), some (.int (i : Int)), y7, y8] ∧ Same H1 J ∧ J l = some (.lst us) ∧ DpAll K J us (bars.map barD) ∧ bars.length ≤ 320 + 320 * i + j ∧ (∀ x ∈ bars, x.1 < x.2 ∧ Hit (passN cs ss ss.length) t x.1 x.2) ∧ (((M = ss.length ∧ NoHit (passN cs ss ss.length) t i) ∧ ∀ j', j' < j → ¬ Hit (passN cs ss ss.length) t j' i) ∨ bars ≠ []))
          ⟨y8, us, bars, rfl, sJ, hJ, hv, by omega, ok, nh.imp (fun h => ⟨h, fun j' z => absurd z (Nat.not_lt_zero _)⟩) id⟩ ?_ ?_
        · rintro j σ J hj ⟨y8, us, bars, rfl, sJ, hJ, hv, bl, ok, nh⟩
          have hj2 : j < i := by omega
          have ul : us.length = bars.length := by rw [dpAll_len hv, List.length_map]
          obtain ⟨zj, hzj⟩ : ∃ z, ss[j]? = some z := ⟨_, List.getElem?_eq_getElem (by omega)⟩
          obtain ⟨vj, hvj, hdj⟩ := dpAll_get hd1 (i := j) (d := sh2D zj) (by rw [List.getElem?_map, hzj]; rfl)
          obtain ⟨vk, hvk, hdk⟩ := dpAll_get hd1 (i := i) (d := sh2D z) (by rw [List.getElem?_map, hz]; rfl)
          obtain ⟨gj, rfl, hgj⟩ := sh2_inv (dp_same sJ hdj)
          obtain ⟨gk, rfl, hgk⟩ := sh2_inv (dp_same sJ hdk)
          have skip : ¬ Hit (passN cs ss ss.length) t j i → ((M = ss.length ∧ NoHit (passN cs ss ss.length) t i) ∧ ∀ j', j' < j + 1 → ¬ Hit (passN cs ss ss.length) t j' i) ∨ bars ≠ [] := fun no => nh.imp (fun h => ⟨h.1, fun j' z => by
            rcases Nat.lt_or_ge j' j with c | c
            · exact h.2 j' c
            · rw [show j' = j by omega]; exact no⟩) id
          rw [Int.zero_add (j : Int)]
          walk_at "ct"
          refine w_ixL (.of (sJ _ _ hsp)) (at_of (j := j) rfl (atS j (by omega))) ?_
          walk_at "ct"
          refine ⟨rfl, ?_⟩
          cases eo : spotO cs t j with
          | none =>
            refine ⟨false, rfl, ?_⟩
            walk_at "ct"
            exact ⟨_, us, bars, rfl, sJ, hJ, hv, by omega, ok, skip fun h => by have := hit_spot cl hzj hz h; rw [eo] at this; exact this.2.1 this.1.symm⟩
          | some r =>
            refine ⟨true, rfl, ?_⟩
            walk_at "ct"
            refine w_ixL (.of (sJ _ _ hsp)) (at_of (j := j) rfl (atS j (by omega))) ?_
            rw [eo]
            walk_at "ct"
            refine w_ixL (.of (sJ _ _ hsp)) (at_of (j := i) rfl (atS i hi2)) ?_
            have other : spotO cs t i ≠ some r → ((M = ss.length ∧ NoHit (passN cs ss ss.length) t i) ∧ ∀ j', j' < j + 1 → ¬ Hit (passN cs ss ss.length) t j' i) ∨ bars ≠ [] := fun ne => skip fun h => by
              have := hit_spot cl hzj hz h
              rw [eo] at this
              exact ne this.1.symm
            cases ei : spotO cs t i with
            | none =>
              refine ⟨rfl, ?_⟩
              refine ⟨false, rfl, ?_⟩
              walk_at "ct"
              exact ⟨_, us, bars, rfl, sJ, hJ, hv, by omega, ok, other (by rw [ei]; exact fun z => nomatch z)⟩
            | some r2 =>
              refine ⟨rfl, ?_⟩
              by_cases e : r = r2
              · refine ⟨true, congrArg V.bl (decide_eq_true (by rw [e])), ?_⟩
                walk_at "ct"
                refine w_ixL (sJ.seq hb1) (at_of (j := j) rfl hvj) ?_
                walk_at "ct"
                refine w_ixL (sJ.seq hb1) (at_of (j := i) rfl hvk) ?_
                walk_at "ct"
                refine ⟨rfl, ?_⟩
                rw [show (!decide (V.bl (decide (zj.2 = 0)) = V.bl (decide (z.2 = 0)))) = (decide (zj.2 = 0) != decide (z.2 = 0)) by
                  cases decide (zj.2 = 0) <;> cases decide (z.2 = 0) <;> rfl]
                cases un : (decide (zj.2 = 0) != decide (z.2 = 0)) with
                | false =>
                  walk_at "ct"
                  exact ⟨_, us, bars, rfl, sJ, hJ, hv, by omega, ok, skip fun h => by have := (hit_spot cl hzj hz h).2.2; rw [un] at this; cases this⟩
                | true =>
                  have hit := spot_hit cl hzj hz (by rw [eo, ei, e]) (by rw [ei]; exact fun z => nomatch z) un
                  walk_at "ct"
                  refine ⟨ty_list hJ, ?_⟩
                  walk_at "ct"
                  refine ⟨len2 rfl, fun g ng => ?_⟩
                  have u1 : Same J (upd J g (.tup [.int (j : Int), .int (i : Int)])) := same_upd ng
                  have hg : (upd J g (.tup [.int (j : Int), .int (i : Int)])) g = some (.tup [.int (j : Int), .int (i : Int)]) := upd_same
                  generalize upd J g _ = J2 at *
                  have hl3 := u1 _ _ hJ
                  walk_at "ct"
                  refine w_append hl3 (Nat.lt_of_le_of_lt (show us.length ≤ 200000 by omega) (by rw [sizeLine_eq]; decide)) ?_
                  walk_at "ct"
                  refine ⟨_, us ++ [.ref g], bars ++ [(j, i)], rfl, same_new (sJ.trans u1) nl, upd_same, dpAll_wr hl3 (barD_snoc (dpAll_same u1 hv) (.of hg)) (barD_nl _), ?_, fun x hx => ?_, .inr (by simp)⟩
                  · rw [List.length_append]
                    show bars.length + 1 ≤ 320 + 320 * i + (j + 1)
                    omega
                  · rcases List.mem_append.mp hx with hx | hx
                    · exact ok x hx
                    · rw [List.mem_singleton.mp hx]
                      exact ⟨hj2, hit⟩
              · refine ⟨false, congrArg V.bl (decide_eq_false (fun z => e (V.int.inj z))), ?_⟩
                walk_at "ct"
                exact ⟨_, us, bars, rfl, sJ, hJ, hv, by omega, ok, other (by rw [ei]; exact fun z => e (Option.some.inj z).symm)⟩
        · rintro σ J ⟨y8, us, bars, rfl, sJ, hJ, hv, bl, ok, nh⟩
          refine ⟨_, _, us, bars, rfl, sJ, hJ, hv, by omega, ok, nh.imp (fun h => ⟨h.1.1, fun j' k' jk kn => ?_⟩) id⟩
          rcases Nat.lt_or_ge k' i with c | c
          · exact h.1.2 j' k' jk c
          · have : k' = i := by omega
            subst this
            exact h.2 j' (by omega)
      · rintro σ J ⟨y6, y8, us, bars, rfl, sJ, hJ, hv, bl, ok, nh⟩
        walk_at "ct"
        refine q l us bars J (s1.trans sJ) (s1.free nl) hJ hv ok fun fr => ?_
        rcases nh with nh | nh
        · have : freeB (passN cs ss ss.length) t = true := freeB_iff.mpr (by
            rw [pass_len cl]
            have e : (M : Int).toNat = ss.length := by omega
            rw [e] at nh
            exact nh.2)
          rw [this] at fr
          cases fr
        · exact nh
abbrev S__law_made : Stmt := topS 60
theorem sc__law_made : FnScope ["_law_draws_here", "_law_ways", "_law_shows", "_law_due_here", "_law_wrong_here", "_law_pairs_here", "_law_bars", "_law_teeth"] ["_law_draws_here", "_law_ways", "_law_shows"] (defScope S__law_made) := ⟨rfl, rfl, rfl, by decide +kernel, rfl, by decide +kernel, by decide +kernel⟩
def sp__law_made (K : PySem.W.Frag) : Sp := fun vs H Q _ => ∃ (D a b : Addr) (c : Nat) (cs : List Int) (ws : List V) (ss : List (Int × Int)), vs = [.ref D, .ref a, .ref b] ∧ H D = some (DrO D c) ∧ c ≤ 890000 ∧ H a = some (.lst (cs.map V.int)) ∧ H b = some (.lst ws) ∧ DpAll K H ws (ss.map sh2D) ∧ cs.length = ss.length ∧ ss.length ≤ 310 ∧ (∀ c ∈ cs, c = 0 ∨ Sign c) ∧
  ∀ g c' H', Dr D c' H H' → c' ≤ c + 400 → MdT K (fun d => rightB (passN cs ss ss.length) d = true) H' g → Q (.ref g) H'
theorem ok__law_made {f : Addr} {fd : FuncData} {f__law_next : Addr} {fd__law_next : FuncData} {f__law_pairs : Addr} {fd__law_pairs : FuncData} {f__law_wrong : Addr} {fd__law_wrong : FuncData} {f__law_due : Addr} {fd__law_due : FuncData} (F : Fun K "_law_made" "_law_made" S__law_made f fd)
    (F__law_next : Fun K "_law_next" "_law_next" S__law_next f__law_next fd__law_next) (b__law_next : Binds K fd__law_next ["_law_draws_here"] []) (g__law_next : mg "_law_next" = some (.ref f__law_next)) (G__law_next : FnOk P w K mg base CX0 1 f__law_next fd__law_next ["_law_draws_here"] (sp__law_next K))
    (F__law_pairs : Fun K "_law_pairs" "_law_pairs" S__law_pairs f__law_pairs fd__law_pairs) (b__law_pairs : Binds K fd__law_pairs ["_law_ways", "_law_shows", "_law_teeth"] []) (g__law_pairs : mg "_law_pairs" = some (.ref f__law_pairs)) (G__law_pairs : FnOk P w K mg base CX0 2 f__law_pairs fd__law_pairs ["_law_ways", "_law_shows", "_law_teeth"] (sp__law_pairs K))
    (F__law_wrong : Fun K "_law_wrong" "_law_wrong" S__law_wrong f__law_wrong fd__law_wrong) (b__law_wrong : Binds K fd__law_wrong ["_law_ways", "_law_shows"] []) (g__law_wrong : mg "_law_wrong" = some (.ref f__law_wrong)) (G__law_wrong : FnOk P w K mg base CX0 1 f__law_wrong fd__law_wrong ["_law_ways", "_law_shows"] (sp__law_wrong K))
    (F__law_due : Fun K "_law_due" "_law_due" S__law_due f__law_due fd__law_due) (b__law_due : Binds K fd__law_due ["_law_ways", "_law_shows"] []) (g__law_due : mg "_law_due" = some (.ref f__law_due)) (G__law_due : FnOk P w K mg base CX0 2 f__law_due fd__law_due ["_law_ways", "_law_shows"] (sp__law_due K)) (m_range : mg "range" = none) (m_len : mg "len" = none) :
    FnOk P w K mg base CX0 3 f fd ["_law_draws_here", "_law_ways", "_law_shows"] (sp__law_made K) := by
  refine F.ok sc__law_made (fun vs H Q E h => ?_) (fun cdv A outer s H vs Q E hr h => ?_)
  ·
    obtain ⟨D, a, b, c, cs, ws, ss, rfl, _⟩ := h
    rfl
  ·
    obtain ⟨D, a, b, c, cs, ws, ss, rfl, hD, hc, ha, hb, hd, cl, sl, csg, q⟩ := h
    refine ⟨_, (pss_cons (ps_set (i := 3) sc__law_made.nd rfl (.inl rfl) (pe_call G__law_due (hr.mono (by decide)) (by rfl) g__law_due F__law_due.kp b__law_due .nil pass0 (pa_cons (pv 1) (pa_cons (pv 2) pa_nil))))
      (pss_cons (ps_if (PW.pt (pw_and (pt_cmpR op_eq (pe_ix (r := rIxT K) ix_tup (pv 3) pe_int (fun _ _ => rfl)) pe_str (nomark _)) (pw_and1 (pt_cmpR op_notN (pe_ix (r := rIxT K) ix_tup (pv 3) pe_int (fun _ _ => rfl)) pe_non (nomark _))))) (pss_cons (ps_set (i := 4) sc__law_made.nd rfl (.inl rfl) (pe_call G__law_wrong (hr.mono (by decide)) (by rfl) g__law_wrong F__law_wrong.kp b__law_wrong .nil pass0 (pa_cons (pv 1) (pa_cons (pv 2) pa_nil))))
      (pss_one (ps_ret (pe_op (r := rCatA K) op_catA (pe_tup (pa_cons pe_str pa_nil)) (pe_op (r := rRepZ K) op_repZ (pe_tup (pa_cons (pe_ix (r := rIxL K) ix_list (pv 4) (pe_op op_mod (pe_call G__law_next (hr.mono (by decide)) (by rfl) g__law_next F__law_next.kp b__law_next .nil pass0 (pa_cons (pv 0) pa_nil)) (pe_callB call_len_seq (by rfl) m_len (by decide +kernel) (pa_cons (pv 4) pa_nil))) (fun _ _ => rfl)) pa_nil)) pe_int))))) pss_nil)
      (pss_cons (ps_if (pt_cmpR op_eq (pe_ix (r := rIxT K) ix_tup (pv 3) pe_int (fun _ _ => rfl)) pe_str (nomark _)) (pss_cons (ps_set (i := 5) sc__law_made.nd rfl (.inl rfl) (pe_call G__law_pairs (hr.mono (by decide)) (by rfl) g__law_pairs F__law_pairs.kp b__law_pairs .nil pass0 (pa_cons (pv 1) (pa_cons (pv 2) (pa_cons (pe_op op_add (pe_callB call_len_seq (by rfl) m_len (by decide +kernel) (pa_cons (pv 2) pa_nil)) pe_int) pa_nil)))))
      (pss_one (ps_ret (pe_op (r := rCatA K) op_catA (pe_tup (pa_cons pe_str pa_nil)) (pe_ix (r := rIxL K) ix_list (pv 5) (pe_op op_mod (pe_call G__law_next (hr.mono (by decide)) (by rfl) g__law_next F__law_next.kp b__law_next .nil pass0 (pa_cons (pv 0) pa_nil)) (pe_callB call_len_seq (by rfl) m_len (by decide +kernel) (pa_cons (pv 5) pa_nil))) (fun _ _ => rfl)))))) pss_nil)
      (pss_cons (ps_set (i := 6) sc__law_made.nd rfl (.inl rfl) (pe_lst pa_nil))
      (pss_cons (ps_for PassesOwn.never rfl (pi_range2 (by rfl) m_range (pa_cons pe_int (pa_cons (pe_ix (r := rIxT K) ix_tup (pv 3) pe_int (fun _ _ => rfl)) pa_nil))) (pg_name (i := 7) sc__law_made.nd rfl (.inl rfl))
      (pss_cons (ps_set (i := 5) sc__law_made.nd rfl (.inl rfl) (pe_call G__law_pairs (hr.mono (by decide)) (by rfl) g__law_pairs F__law_pairs.kp b__law_pairs .nil pass0 (pa_cons (pv 1) (pa_cons (pv 2) (pa_cons (pv 7) pa_nil)))))
      (pss_one (ps_expr (pe_bm PySem.F.plainAttrs_list PySem.F.slot_list_append PySem.F.type_list_append mt_append (pv 6) (pa_cons (pe_ix (r := rIxL K) ix_list (pv 5) (pe_op op_mod (pe_call G__law_next (hr.mono (by decide)) (by rfl) g__law_next F__law_next.kp b__law_next .nil pass0 (pa_cons (pv 0) pa_nil)) (pe_callB call_len_seq (by rfl) m_len (by decide +kernel) (pa_cons (pv 5) pa_nil))) (fun _ _ => rfl)) pa_nil))))))
      (pss_one (ps_ret (pe_op (r := rCatA K) op_catA (pv 3) (pe_tup (pa_cons (pv 6) pa_nil)))))))))), ?_⟩
    refine w_st (σ' := [some (.ref D), some (.ref a), some (.ref b), none, none, none, none, none]) rfl ?_
    have wl : ws.length = ss.length := by rw [dpAll_len hd, List.length_map]
    have wk : Walky (passN cs ss ss.length) := walky_pass (fun c hc => by rcases csg c hc with e | e | e <;> rw [e] <;> decide) cl
    walk_at "ct"
    refine ⟨a, b, cs, ws, ss, rfl, .of ha, .of hb, hd, cl, by omega, wk, fun g H1 s1 due => ?_⟩
    obtain ⟨ps, hps⟩ : ∃ ps, ps = passN cs ss ss.length := ⟨_, rfl⟩
    have pl : ps.length = ss.length := by rw [hps]; exact pass_len cl
    rw [← hps] at q due wk
    have hD1 := s1 _ _ hD
    have ha1 := s1 _ _ ha
    have hb1 := s1 _ _ hb
    have hd1 := dpAll_same s1 hd
    have dr1 := (Dr.refl hD).same s1
    rcases due with ⟨k, p, hg, hk, wr, _⟩ | ⟨nw, fr, hg⟩ | ⟨nw, fr, t, m, ms, t1, ft, low, hg, hm, im⟩
    · have hg' : SqT K H1 g [.str "none", .int (k : Int)] := .of hg
      walk_at "ct"
      refine ⟨rfl, ?_⟩
      refine ⟨true, rfl, ?_⟩
      walk_at "ct"
      refine ⟨a, b, cs, ws, ss, rfl, .of ha1, .of hb1, hd1, cl, by omega, fun l H2 s2 nl hl => ?_⟩
      rw [← hps] at hl
      have dr2 := dr1.same s2
      have hD2 := s2 _ _ hD1
      walk_at "ct"
      refine ⟨len2 rfl, fun n1 nn1 => ?_⟩
      have u1 : Same H2 (upd H2 n1 (.tup [.str "none"])) := same_upd nn1
      have hn1 : (upd H2 n1 (.tup [.str "none"])) n1 = some (.tup [.str "none"]) := upd_same
      generalize upd H2 n1 _ = H3 at *
      have dr3 := dr2.same u1
      have hD3 := u1 _ _ hD2
      have hl3 := u1 _ _ hl
      walk_at "ct"
      refine ⟨D, c, rfl, hD3, by omega, fun x1 _ _ => ?_⟩
      have st := Dr.step hD3 (c + 1)
      have dr4 := dr3.trans st
      have hl4 := st.at hD3 hl3
      have hn4 := st.at hD3 hn1
      generalize upd H3 D _ = H4 at *
      walk_at "ct"
      refine ⟨l, _, rfl, .inl (.of hl4), ?_⟩
      walk_at "ct"
      have pos : 0 < (wrongs ps ss.length).length := by
        have : (k : Int) ∈ wrongs ps ss.length := List.mem_map.mpr ⟨k, List.mem_filter.mpr ⟨List.mem_range.mpr (by have := (List.getElem?_eq_some_iff.mp hk).1; omega), by unfold wrongAt; rw [hk]; exact wr⟩, rfl⟩
        exact List.length_pos_of_mem this
      refine w_mod (by rw [List.length_map]; omega) fun r r0 r1 => ?_
      rw [List.length_map] at r1
      obtain ⟨rn, rfl⟩ : ∃ rn : Nat, r = rn := ⟨r.toNat, by omega⟩
      obtain ⟨x, hx⟩ : ∃ x, (wrongs ps ss.length)[rn]? = some x := ⟨_, List.getElem?_eq_getElem (by omega)⟩
      have xm := List.mem_of_getElem? hx
      obtain ⟨kn, rfl, kl⟩ := wrongs_nat xm
      refine w_ixL (.of hl4) (at_of (j := rn) rfl (by rw [List.getElem?_map, hx]; rfl)) ?_
      walk_at "ct"
      refine ⟨len2 rfl, fun n2 nn2 => ?_⟩
      have u2 : Same H4 (upd H4 n2 (.tup [.int (kn : Int)])) := same_upd nn2
      have hn2 : (upd H4 n2 (.tup [.int (kn : Int)])) n2 = some (.tup [.int (kn : Int)]) := upd_same
      generalize upd H4 n2 _ = H5 at *
      have hn5 := u2 _ _ hn4
      have dr5 := dr4.same u2
      walk_at "ct"
      refine w_repZ (.of hn2) (fun z => nomatch z) (by decide) (by decide) (show 1 ≤ 1000 by decide) fun n3 H6 u3 hn3 => ?_
      refine w_catN (Same.tup u3 (.of hn5)) hn3 (fun z => nomatch z) (fun z => nomatch z) (show 1 + 2 ≤ 1000 by decide) fun n4 nn4 => ?_
      walk_at "ct"
      refine q n4 (c + 1) _ ((dr5.same u3).same (same_upd nn4)) (by omega) (.inl ⟨kn, kn, upd_same, by omega, by omega, ?_⟩)
      rw [← pl] at xm
      exact made_none xm
    · have hg' : SqT K H1 g [.str "none", .non] := .of hg
      walk_at "ct"
      refine ⟨rfl, ?_⟩
      refine ⟨false, rfl, ?_⟩
      walk_at "ct"
      refine ⟨b, ws, rfl, .inl (.of hb1), ?_⟩
      walk_at "ct"
      refine ⟨a, b, cs, ws, ss, _, rfl, .of ha1, .of hb1, hd1, cl, by omega, by omega, fun l us bars H2 s2 nl hl hu ok some_ => ?_⟩
      rw [← hps] at ok some_
      have ne : bars ≠ [] := some_ (by rw [wl, ← pl]; exact fr)
      have ul : us.length = bars.length := by rw [dpAll_len hu, List.length_map]
      have dr2 := dr1.same s2
      have hD2 := s2 _ _ hD1
      walk_at "ct"
      refine ⟨len2 rfl, fun n1 nn1 => ?_⟩
      have u1 : Same H2 (upd H2 n1 (.tup [.str "none"])) := same_upd nn1
      have hn1 : (upd H2 n1 (.tup [.str "none"])) n1 = some (.tup [.str "none"]) := upd_same
      generalize upd H2 n1 _ = H3 at *
      have dr3 := dr2.same u1
      have hD3 := u1 _ _ hD2
      have hl3 := u1 _ _ hl
      have hu3 := dpAll_same u1 hu
      walk_at "ct"
      refine ⟨D, c, rfl, hD3, by omega, fun x1 _ _ => ?_⟩
      have st := Dr.step hD3 (c + 1)
      have dr4 := dr3.trans st
      have hl4 := st.at hD3 hl3
      have hn4 := st.at hD3 hn1
      have hu4 := st.all hD3 hu3
      generalize upd H3 D _ = H4 at *
      walk_at "ct"
      refine ⟨l, _, rfl, .inl (.of hl4), ?_⟩
      walk_at "ct"
      have pos : 0 < bars.length := List.length_pos_iff.mpr ne
      refine w_mod (by omega) fun r r0 r1 => ?_
      obtain ⟨rn, rfl⟩ : ∃ rn : Nat, r = rn := ⟨r.toNat, by omega⟩
      obtain ⟨x, hx⟩ : ∃ x, bars[rn]? = some x := ⟨_, List.getElem?_eq_getElem (by omega)⟩
      obtain ⟨y, hy, hdy⟩ := dpAll_get hu4 (i := rn) (d := barD x) (by rw [List.getElem?_map, hx]; rfl)
      obtain ⟨g2, rfl, hg2⟩ := tupD_inv (s := [(x.1 : Int), (x.2 : Int)]) hdy
      refine w_ixL (.of hl4) (at_of (j := rn) rfl hy) ?_
      walk_at "ct"
      refine w_catN (.of hn4) hg2 (fun z => nomatch z) (fun z => nomatch z) (show 1 + 2 ≤ 1000 by decide) fun n4 nn4 => ?_
      walk_at "ct"
      obtain ⟨o1, o2⟩ := ok x (List.mem_of_getElem? hx)
      have := o2.lt
      refine q n4 (c + 1) _ (dr4.same (same_upd nn4)) (by omega) (.inl ⟨x.1, x.2, upd_same, by omega, by omega, made_two wk o1 ?_⟩)
      rw [wl, ← pl] at o2
      exact o2
    · have hg' : SqT K H1 g [.str "wheel", .int (t : Int), .ref m] := .of hg
      have tn : t ≤ ss.length + 1 := by
        rcases Nat.lt_or_ge (ss.length + 1) t with z | z
        · have := low (ps.length + 1) (by omega) (by omega)
          rw [fr] at this
          cases this
        · exact z
      have mr := im.rise (by omega)
      walk_at "ct"
      refine ⟨len2 rfl, fun l nl => ?_⟩
      have u1 : Same H1 (upd H1 l (.lst [])) := same_upd nl
      have hl : (upd H1 l (.lst [])) l = some (.lst []) := upd_same
      generalize upd H1 l _ = H2 at *
      have hg2 : SqT K H2 g [.str "wheel", .int (t : Int), .ref m] := .of (u1 _ _ hg)
      have dr2 := dr1.same u1
      have nlH : H l = none := dr1.free nl
      walk_at "ct"
      refine w_RG2 (by omega) (by omega) (by omega) (by omega) ?_
      refine fb_range (fun i σ G => ∃ (y5 y7 : Option V) (us : List V) (bars : List (Nat × Nat)), σ = [some (.ref D), some (.ref a), some (.ref b), some (.ref g), none, y5, some (.ref l), y7] ∧ Dr D (c + i) H G ∧ G l = some (.lst us) ∧ G g = some (.tup [.str "wheel", .int (t : Int), .ref m]) ∧ G m = some (.tup (ms.map V.int)) ∧ DpAll K G us (bars.map barD) ∧ bars.length = i ∧ ∀ (n : Nat) (x : Nat × Nat), bars[n]? = some x → x.1 < x.2 ∧ Hit ps ((n + 1 : Nat) : Int) x.1 x.2)
        ⟨none, none, [], [], rfl, dr2, hl, u1 _ _ hg, u1 _ _ hm, .nil, rfl, fun n x z => by simp at z⟩ ?_ ?_
      · rintro i σ G hi ⟨y5, y7, us, bars, rfl, drG, hlG, hgG, hmG, hu, bl, ok⟩
        have hi2 : i + 1 < t := by omega
        have hDG := drG.2
        have haG := drG.at hD ha
        have hbG := drG.at hD hb
        have hdG := drG.all hD hd
        have ul : us.length = bars.length := by rw [dpAll_len hu, List.length_map]
        walk_at "ct"
        refine ⟨a, b, cs, ws, ss, _, rfl, .of haG, .of hbG, hdG, cl, by omega, by omega, fun p ps2 prs G1 s2 np hp hpu okp some_ => ?_⟩
        rw [← hps] at okp some_
        have ne : prs ≠ [] := some_ (by
          rw [show (1 : Int) + (i : Int) = ((i + 1 : Nat) : Int) by omega]
          exact low (i + 1) (by omega) hi2)
        have pul : ps2.length = prs.length := by rw [dpAll_len hpu, List.length_map]
        have hl1 := s2 _ _ hlG
        have hD1 := s2 _ _ hDG
        walk_at "ct"
        refine ⟨ty_list hl1, ?_⟩
        walk_at "ct"
        refine ⟨D, c + i, rfl, hD1, by omega, fun x1 _ _ => ?_⟩
        have st := Dr.step hD1 (c + i + 1)
        have dr3 := (drG.same s2).trans st
        have hl2 := st.at hD1 hl1
        have hp2 := st.at hD1 hp
        have hpu2 := st.all hD1 hpu
        have hu2 := st.all hD1 (dpAll_same s2 hu)
        have hg2 := st.at hD1 (s2 _ _ hgG)
        have hm2 := st.at hD1 (s2 _ _ hmG)
        generalize upd G1 D _ = G2 at *
        walk_at "ct"
        refine ⟨p, _, rfl, .inl (.of hp2), ?_⟩
        walk_at "ct"
        have pos : 0 < prs.length := List.length_pos_iff.mpr ne
        refine w_mod (by omega) fun r r0 r1 => ?_
        obtain ⟨rn, rfl⟩ : ∃ rn : Nat, r = rn := ⟨r.toNat, by omega⟩
        obtain ⟨x, hx⟩ : ∃ x, prs[rn]? = some x := ⟨_, List.getElem?_eq_getElem (by omega)⟩
        obtain ⟨y, hy, hdy⟩ := dpAll_get hpu2 (i := rn) (d := barD x) (by rw [List.getElem?_map, hx]; rfl)
        refine w_ixL (.of hp2) (at_of (j := rn) rfl hy) ?_
        walk_at "ct"
        refine w_append hl2 (small1000 (by omega)) ?_
        walk_at "ct"
        refine ⟨_, _, us ++ [y], bars ++ [x], rfl, dr3.put nlH hl2, upd_same, tup_keep hg2 hl2, tup_keep hm2 hl2, ?_, by rw [List.length_append, bl]; rfl, fun n z hz => ?_⟩
        · refine dpAll_wr hl2 ?_ (barD_nl _)
          rw [List.map_append]
          exact dpAll_app hu2 (.cons hdy .nil)
        · rcases Nat.lt_or_ge n bars.length with cn | cn
          · rw [List.getElem?_append_left cn] at hz
            exact ok n z hz
          · rw [List.getElem?_append_right cn] at hz
            have n0 : n - bars.length = 0 := by
              have := (List.getElem?_eq_some_iff.mp hz).1
              have : n - bars.length < 1 := this
              omega
            rw [n0] at hz
            cases Option.some.inj hz
            have := okp x (List.mem_of_getElem? hx)
            rw [show ((n + 1 : Nat) : Int) = 1 + (i : Int) by omega]
            exact this
      · rintro σ G ⟨y5, y7, us, bars, rfl, drG, hlG, hgG, hmG, hu, bl, ok⟩
        have hgS : SqT K G g [.str "wheel", .int (t : Int), .ref m] := .of hgG
        walk_at "ct"
        refine ⟨len2 rfl, fun n1 nn1 => ?_⟩
        have v1 : Same G (upd G n1 (.tup [.ref l])) := same_upd nn1
        have hn1 : (upd G n1 (.tup [.ref l])) n1 = some (.tup [.ref l]) := upd_same
        generalize upd G n1 _ = G1 at *
        refine w_catN (Same.tup v1 hgS) (.of hn1) (fun z => nomatch z) (fun z => nomatch z) (show 3 + 1 ≤ 1000 by decide) fun n4 nn4 => ?_
        have v2 : Same G (upd G1 n4 (.tup ([.str "wheel", .int (t : Int), .ref m] ++ [.ref l]))) := v1.trans (same_upd nn4)
        walk_at "ct"
        have bl2 : bars.length + 1 = t := by omega
        refine q n4 _ _ (drG.same v2) (by omega) (.inr ⟨t, m, l, ms, us, bars, upd_same, v2 _ _ hmG, v2 _ _ hlG, dpAll_same v2 hu, ⟨t1, by omega, mr.2, by have := rise_len mr; omega, fun x hx => ?_, bl2⟩, made_wheel t1 nw ft im bl2 ok⟩)
        obtain ⟨n, hn⟩ := List.mem_iff_getElem?.mp hx
        obtain ⟨o1, o2⟩ := ok n x hn
        have := o2.lt
        omega
abbrev S__law_mended : Stmt := topS 61
theorem sc__law_mended : FnScope ["_law_draws_here", "_law_ways", "_law_shows", "_law_by", "_law_told", "_law_show", "_law_given_here"] ["_law_draws_here", "_law_ways", "_law_shows"] (defScope S__law_mended) := ⟨rfl, rfl, rfl, by decide +kernel, rfl, by decide +kernel, by decide +kernel⟩
def sp__law_mended (K : PySem.W.Frag) : Sp := fun vs H Q _ => ∃ (D a b : Addr) (n : Nat) (cs : List Int) (ws : List V) (ss : List (Int × Int)), vs = [.ref D, .ref a, .ref b] ∧ H D = some (DrO D n) ∧ n ≤ 900000 ∧ H a = some (.lst (cs.map V.int)) ∧ H b = some (.lst ws) ∧ DpAll K H ws (ss.map sh2D) ∧ cs.length = ss.length ∧ ss.length ≤ 1000 ∧ (∀ s ∈ ss, Sh2Ok s) ∧ (∀ c ∈ cs, c = 0 ∨ Sign c) ∧
  ∀ l us (ts : List (Int × Int)) H', Dr D (n + 1) H H' → H l = none → H' l = some (.lst us) → DpAll K H' us (ts.map sh2D) → (∀ s ∈ ts, Sh2Ok s) → ts.map (·.1) = ss.map (·.1) → Q (.ref l) H'
theorem ok__law_mended {f : Addr} {fd : FuncData} {f__law_next : Addr} {fd__law_next : FuncData} (F : Fun K "_law_mended" "_law_mended" S__law_mended f fd)
    (F__law_next : Fun K "_law_next" "_law_next" S__law_next f__law_next fd__law_next) (b__law_next : Binds K fd__law_next ["_law_draws_here"] []) (g__law_next : mg "_law_next" = some (.ref f__law_next)) (G__law_next : FnOk P w K mg base CX0 1 f__law_next fd__law_next ["_law_draws_here"] (sp__law_next K)) (m_zip : mg "zip" = none) (m_int : mg "int" = none) :
    FnOk P w K mg base CX0 2 f fd ["_law_draws_here", "_law_ways", "_law_shows"] (sp__law_mended K) := by
  refine F.ok sc__law_mended (fun vs H Q E h => ?_) (fun cdv A outer s H vs Q E hr h => ?_)
  ·
    obtain ⟨D, a, b, n, cs, ws, ss, rfl, _⟩ := h
    rfl
  ·
    obtain ⟨D, a, b, n, cs, ws, ss, rfl, hD, hn, ha, hb, hd, cl, sl, oks, csg, q⟩ := h
    refine ⟨_, (pss_cons (ps_set (i := 3) sc__law_mended.nd rfl (.inl rfl) (pe_op op_mod (pe_call G__law_next (hr.mono (by decide)) (by rfl) g__law_next F__law_next.kp b__law_next .nil pass0 (pa_cons (pv 0) pa_nil)) pe_int))
      (pss_cons (ps_set (i := 4) sc__law_mended.nd rfl (.inl rfl) (pe_lst pa_nil))
      (pss_cons (ps_for PassesOwn.never rfl (pi_zip (by rfl) m_zip (pa_cons (pv 2) (pa_cons (pv 1) pa_nil))) (pg_tup rfl (pgs_cons (pg_name (i := 5) sc__law_mended.nd rfl (.inl rfl)) (pgs_cons (pg_name (i := 6) sc__law_mended.nd rfl (.inl rfl)) pgs_nil)))
      (pss_one (ps_expr (pe_bm PySem.F.plainAttrs_list PySem.F.slot_list_append PySem.F.type_list_append mt_append (pv 4) (pa_cons (pe_tup (pa_cons (pe_ix (r := rIxT K) ix_tup (pv 5) pe_int (fun _ _ => rfl)) (pa_cons (pe_op op_mulW (pv 6) (pe_callTy call_int1 (by rfl) m_int (by decide +kernel) (pa_cons (pe_ix (r := rIxL K) ix_list (pe_lst (pa_cons (pe_cmpR op_ne (pe_ix (r := rIxT K) ix_tup (pv 5) pe_int (fun _ _ => rfl)) pe_int (nomark _)) (pa_cons (pe_cmpR op_eq (pe_ix (r := rIxT K) ix_tup (pv 5) pe_int (fun _ _ => rfl)) (pv 6) (nomark _)) pa_nil))) (pv 3) (fun _ _ => rfl)) pa_nil))) pa_nil))) pa_nil)))))
      (pss_one (ps_ret (pv 4)))))), ?_⟩
    refine w_st (σ' := [some (.ref D), some (.ref a), some (.ref b), none, none, none, none]) rfl ?_
    have wl : ws.length = ss.length := by rw [dpAll_len hd, List.length_map]
    walk_at "ct"
    refine ⟨D, n, rfl, hD, by omega, fun n1 _ _ => ?_⟩
    have st := Dr.step hD (n + 1)
    have ha1 := st.at hD ha
    have hb1 := st.at hD hb
    have hd1 := st.all hD hd
    generalize upd H D _ = H1 at *
    walk_at "ct"
    refine w_mod (by decide) fun by_ by0 by1 => ?_
    walk_at "ct"
    refine ⟨len2 rfl, fun l nl => ?_⟩
    have s1 : Same H1 (upd H1 l (.lst [])) := same_upd nl
    have h1 : (upd H1 l (.lst [])) l = some (.lst []) := upd_same
    generalize upd H1 l _ = H2 at *
    walk_at "ct"
    have d2 := st.same s1
    have nlH : H l = none := st.free nl
    refine w_izip ?_
    walk_at "ct"
    refine w_IZL (.of (s1 _ _ hb1)) (.of (s1 _ _ ha1)) ?_
    refine fb_zipL ws (cs.map V.int) (by rw [List.length_map]; omega) (fun k σ G => ∃ (y5 y6 : Option V) (us : List V) (ts : List (Int × Int)), σ = [some (.ref D), some (.ref a), some (.ref b), some (.int by_), some (.ref l), y5, y6] ∧ Same H1 G ∧ G l = some (.lst us) ∧ DpAll K G us (ts.map sh2D) ∧ (∀ s ∈ ts, Sh2Ok s) ∧ ts.map (·.1) = (ss.map (·.1)).take k) ⟨none, none, [], [], rfl, s1, h1, .nil, (fun _ z => nomatch z), rfl⟩ ?_ ?_ ?_
    · rintro k σ G _ ⟨y5, y6, us, ts, rfl, sG, _⟩
      exact ⟨.of (sG _ _ hb1), .of (sG _ _ ha1)⟩
    · rintro k x y Tp σ G hx hy ⟨y5, y6, us, ts, rfl, sG, hl, hu, okt, tf⟩ nT
      obtain ⟨c, hc, rfl⟩ : ∃ c : Int, cs[k]? = some c ∧ y = .int c := by
        rw [List.getElem?_map] at hy
        cases e : cs[k]? with
        | none => rw [e] at hy; cases hy
        | some c => rw [e] at hy; exact ⟨c, rfl, (Option.some.inj hy).symm⟩
      have hk : k < ws.length := (List.getElem?_eq_some_iff.mp hx).1
      obtain ⟨z, hz⟩ : ∃ z, ss[k]? = some z := ⟨_, List.getElem?_eq_getElem (by omega)⟩
      obtain ⟨v', hv1, hdz⟩ := dpAll_get hd1 (i := k) (d := sh2D z) (by rw [List.getElem?_map, hz]; rfl)
      cases Option.some.inj (hx.symm.trans hv1)
      obtain ⟨g5, rfl, hg5⟩ := sh2_inv (dp_same sG hdz)
      have okz := oks z (List.mem_of_getElem? hz)
      have scc := csg c (List.mem_of_getElem? hc)
      have tl : ts.length = k := by
        have := congrArg List.length tf
        rw [List.length_map, List.length_take, List.length_map] at this
        omega
      have ul : us.length = k := by rw [dpAll_len hu, List.length_map, tl]
      have sT : Same G (upd G Tp (.tup [.ref g5, .int c])) := same_upd nT
      have hT : (upd G Tp (.tup [.ref g5, .int c])) Tp = some (.tup [.ref g5, .int c]) := upd_same
      generalize upd G Tp _ = G1 at *
      have hg51 := Same.tup sT hg5
      have hl1 := sT _ _ hl
      refine w_gtup (.of hT) rfl ?_
      walk_at "ct"
      refine ⟨ty_list hl1, ?_⟩
      walk_at "ct"
      refine ⟨len2 rfl, fun b1 nb1 => ?_⟩
      have u2 : Same G1 (upd G1 b1 (.lst [.bl (!decide (z.2 = 0)), .bl (decide (z.2 = c))])) := same_upd nb1
      have hb2 : (upd G1 b1 (.lst [.bl (!decide (z.2 = 0)), .bl (decide (z.2 = c))])) b1 = some (.lst [.bl (!decide (z.2 = 0)), .bl (decide (z.2 = c))]) := upd_same
      generalize upd G1 b1 _ = G2 at *
      obtain ⟨bv, hbv⟩ : ∃ bv : Bool, atI [V.bl (!decide (z.2 = 0)), .bl (decide (z.2 = c))] by_ = some (.bl bv) := by
        have : by_ = 0 ∨ by_ = 1 := by omega
        rcases this with rfl | rfl
        · exact ⟨_, at0⟩
        · exact ⟨_, at1⟩
      walk_at "ct"
      refine w_ixL (.of hb2) hbv ?_
      refine .inr ⟨_, rfl, ?_⟩
      obtain ⟨e1, he1, ok1⟩ : ∃ e1 : Int, c * (if bv = true then 1 else 0) = e1 ∧ (e1 = 0 ∨ Sign e1) := by
        cases bv with
        | true => exact ⟨c, Int.mul_one c, scc⟩
        | false => exact ⟨0, Int.mul_zero c, .inl rfl⟩
      have b1 : c.natAbs < 2 ^ 10 := by
        rcases scc with e | e | e <;> rw [e] <;> decide
      refine w_rIv (.int e1) (wide_mul (a := 10) (b := 10) b1 (by split <;> decide) (by decide) (by decide) (by decide)) (congrArg V.int he1) ?_
      walk_at "ct"
      refine ⟨len2 rfl, fun g7 ng7 => ?_⟩
      have u7 : Same G2 (upd G2 g7 (.tup [.int z.1, .int e1])) := same_upd ng7
      have hg7 : (upd G2 g7 (.tup [.int z.1, .int e1])) g7 = some (.tup [.int z.1, .int e1]) := upd_same
      generalize upd G2 g7 _ = G3 at *
      have u13 := u2.trans u7
      have hl3 := u13 _ _ hl1
      walk_at "ct"
      refine w_append hl3 (small1000 (by omega)) ?_
      walk_at "ct"
      refine ⟨_, _, us ++ [.ref g7], ts ++ [(z.1, e1)], rfl, same_new ((sG.trans sT).trans u13) nl, upd_same, ?_, fun s hs => ?_, ?_⟩
      · rw [List.map_append]
        exact dpAll_app (sh2s_upd hl3 (dpAll_same (sT.trans u13) hu)) (.cons (sh2_upd hl3 (sh2_dp (s := (z.1, e1)) (.of hg7))) .nil)
      · rcases List.mem_append.mp hs with hs | hs
        · exact okt s hs
        · rw [List.mem_singleton.mp hs]
          exact ⟨okz.1, ok1⟩
      · rw [List.map_append, tf, List.take_add_one, List.getElem?_map, hz]
        rfl
    · rintro σ G ⟨y5, y6, us, ts, rfl, sG, hl, hu, okt, tf⟩
      rw [List.take_of_length_le (by rw [List.length_map]; omega)] at tf
      walk_at "ct"
      exact q l us ts G (st.same sG) nlH hl hu okt tf
abbrev S__law_odd : Stmt := topS 62
theorem sc__law_odd : FnScope ["_law_draws_here", "_law_some"] ["_law_draws_here"] (defScope S__law_odd) := ⟨rfl, rfl, rfl, by decide +kernel, rfl, by decide +kernel, by decide +kernel⟩
def sp__law_odd (K : PySem.W.Frag) : Sp := fun vs H Q _ => ∃ (D : Addr) (c : Nat), vs = [.ref D] ∧ H D = some (DrO D c) ∧ c ≤ 900000 ∧ ∀ v d H', Dr D (c + 1) H H' → Dp K H' v d → Bn d 8 2500 → Q v H'
theorem ok__law_odd {f : Addr} {fd : FuncData} {f__law_next : Addr} {fd__law_next : FuncData} (F : Fun K "_law_odd" "_law_odd" S__law_odd f fd)
    (F__law_next : Fun K "_law_next" "_law_next" S__law_next f__law_next fd__law_next) (b__law_next : Binds K fd__law_next ["_law_draws_here"] []) (g__law_next : mg "_law_next" = some (.ref f__law_next)) (G__law_next : FnOk P w K mg base CX0 1 f__law_next fd__law_next ["_law_draws_here"] (sp__law_next K)) :
    FnOk P w K mg base CX0 2 f fd ["_law_draws_here"] (sp__law_odd K) := by
  refine F.ok sc__law_odd (fun vs H Q E h => ?_) (fun cdv A outer s H vs Q E hr h => ?_)
  ·
    obtain ⟨D, c, rfl, _⟩ := h
    rfl
  ·
    obtain ⟨D, c, rfl, hD, hc, q⟩ := h
    refine ⟨_, (pss_cons (ps_set (i := 1) sc__law_odd.nd rfl (.inl rfl) (pe_lst (pa_cons pe_non (pa_cons (pe_tup pa_nil) (pa_cons pe_str (pa_cons (pe_tup (pa_cons pe_str pa_nil)) (pa_cons (pe_tup (pa_cons pe_str (pa_cons pe_int pa_nil))) (pa_cons (pe_tup (pa_cons pe_str (pa_cons pe_int (pa_cons pe_int (pa_cons pe_int pa_nil))))) (pa_cons (pe_tup (pa_cons pe_str (pa_cons pe_int (pa_cons (pe_tup pa_nil) pa_nil)))) (pa_cons (pe_tup (pa_cons pe_str (pa_cons pe_int (pa_cons (pe_tup pa_nil) (pa_cons (pe_lst pa_nil) pa_nil))))) pa_nil))))))))))
      (pss_cons (ps_set (i := 1) sc__law_odd.nd rfl (.inl rfl) (pe_op op_cat (pv 1) (pe_lst (pa_cons (pe_tup (pa_cons pe_str (pa_cons pe_bl (pa_cons (pe_tup pa_nil) (pa_cons (pe_lst pa_nil) pa_nil))))) (pa_cons (pe_tup (pa_cons pe_str (pa_cons pe_int (pa_cons (pe_lst pa_nil) (pa_cons (pe_lst pa_nil) pa_nil))))) (pa_cons (pe_tup (pa_cons pe_str (pa_cons pe_int (pa_cons (pe_tup pa_nil) (pa_cons (pe_tup pa_nil) pa_nil))))) (pa_cons (pe_tup (pa_cons pe_str (pa_cons pe_int (pa_cons (pe_tup pa_nil) (pa_cons pe_non pa_nil))))) pa_nil)))))))
      (pss_cons (ps_set (i := 1) sc__law_odd.nd rfl (.inl rfl) (pe_op op_cat (pv 1) (pe_lst (pa_cons (pe_tup (pa_cons pe_str (pa_cons pe_non (pa_cons pe_int pa_nil)))) (pa_cons (pe_tup (pa_cons pe_str (pa_cons pe_int (pa_cons pe_bl pa_nil)))) (pa_cons (pe_tup (pa_cons pe_str (pa_cons pe_str (pa_cons pe_str pa_nil)))) (pa_cons (pe_tup (pa_cons pe_str (pa_cons (pe_op op_sub pe_int pe_int) (pa_cons pe_int pa_nil)))) (pa_cons (pe_tup (pa_cons pe_str (pa_cons (pe_op op_sub pe_int pe_int) (pa_cons (pe_op op_sub pe_int pe_int) pa_nil)))) pa_nil))))))))
      (pss_cons (ps_set (i := 1) sc__law_odd.nd rfl (.inl rfl) (pe_op op_cat (pv 1) (pe_lst (pa_cons (pe_tup (pa_cons pe_str (pa_cons (pe_op op_powB pe_int pe_int) (pa_cons (pe_tup pa_nil) (pa_cons (pe_lst pa_nil) pa_nil))))) (pa_cons (pe_tup (pa_cons pe_str (pa_cons (pe_op op_powB pe_int pe_int) (pa_cons (pe_op op_powB pe_int pe_int) pa_nil)))) (pa_cons (pe_tup (pa_cons pe_str (pa_cons pe_int (pa_cons (pe_tup (pa_cons pe_int (pa_cons pe_int pa_nil))) (pa_cons (pe_lst pa_nil) pa_nil))))) pa_nil))))))
      (pss_cons (ps_set (i := 1) sc__law_odd.nd rfl (.inl rfl) (pe_op op_cat (pv 1) (pe_lst (pa_cons (pe_lst (pa_cons (pe_tup (pa_cons pe_str (pa_cons pe_int (pa_cons pe_int pa_nil)))) pa_nil)) (pa_cons (pe_tup (pa_cons pe_str (pa_cons pe_int (pa_cons (pe_tup pa_nil) (pa_cons (pe_lst pa_nil) pa_nil))))) (pa_cons (pe_tup (pa_cons pe_str (pa_cons (pe_tup (pa_cons pe_int pa_nil)) (pa_cons (pe_tup (pa_cons pe_int pa_nil)) pa_nil)))) (pa_cons (pe_tup (pa_cons pe_non (pa_cons pe_int (pa_cons (pe_tup pa_nil) (pa_cons (pe_lst pa_nil) pa_nil))))) pa_nil)))))))
      (pss_cons (ps_set (i := 1) sc__law_odd.nd rfl (.inl rfl) (pe_op op_cat (pv 1) (pe_lst (pa_cons (pe_tup (pa_cons pe_str (pa_cons pe_int (pa_cons (pe_tup (pa_cons pe_int pa_nil)) (pa_cons (pe_lst pa_nil) pa_nil))))) (pa_cons pe_int (pa_cons pe_bl (pa_cons (pe_tup (pa_cons pe_str (pa_cons pe_int (pa_cons (pe_tup (pa_cons pe_int (pa_cons pe_non pa_nil))) (pa_cons (pe_lst (pa_cons (pe_tup (pa_cons pe_int (pa_cons pe_int pa_nil))) pa_nil)) pa_nil))))) (pa_cons (pe_tup (pa_cons pe_str (pa_cons pe_int (pa_cons (pe_tup (pa_cons (pe_lst (pa_cons pe_int pa_nil)) pa_nil)) (pa_cons (pe_lst pa_nil) pa_nil))))) pa_nil))))))))
      (pss_cons (ps_set (i := 1) sc__law_odd.nd rfl (.inl rfl) (pe_op op_cat (pv 1) (pe_lst (pa_cons (pe_tup (pa_cons pe_str (pa_cons pe_int (pa_cons (pe_tup (pa_cons pe_int (pa_cons pe_str pa_nil))) (pa_cons (pe_lst pa_nil) pa_nil))))) (pa_cons (pe_tup (pa_cons pe_str (pa_cons (pe_op op_powB pe_int pe_int) (pa_cons (pe_tup (pa_cons pe_non pa_nil)) (pa_cons (pe_lst pa_nil) pa_nil))))) (pa_cons (pe_tup (pa_cons pe_str (pa_cons (pe_op op_powB pe_int pe_int) (pa_cons (pe_tup (pa_cons pe_str pa_nil)) (pa_cons (pe_lst pa_nil) pa_nil))))) pa_nil))))))
      (pss_cons (ps_set (i := 1) sc__law_odd.nd rfl (.inl rfl) (pe_op op_cat (pv 1) (pe_lst (pa_cons (pe_tup (pa_cons pe_str (pa_cons pe_bl (pa_cons pe_bl pa_nil)))) (pa_cons (pe_tup (pa_cons pe_str (pa_cons pe_bl (pa_cons pe_bl pa_nil)))) (pa_cons (pe_tup (pa_cons pe_str (pa_cons pe_int (pa_cons pe_bl pa_nil)))) (pa_cons (pe_tup (pa_cons pe_str (pa_cons pe_int (pa_cons pe_bl pa_nil)))) (pa_cons (pe_tup (pa_cons pe_str pa_nil)) pa_nil))))))))
      (pss_cons (ps_set (i := 1) sc__law_odd.nd rfl (.inl rfl) (pe_op op_cat (pv 1) (pe_lst (pa_cons (pe_tup (pa_cons pe_str (pa_cons pe_bl (pa_cons pe_int pa_nil)))) (pa_cons (pe_tup (pa_cons pe_str (pa_cons pe_bl (pa_cons pe_int pa_nil)))) (pa_cons (pe_tup (pa_cons pe_str (pa_cons pe_non (pa_cons (pe_tup pa_nil) (pa_cons (pe_lst pa_nil) pa_nil))))) (pa_cons (pe_tup (pa_cons pe_str (pa_cons pe_str (pa_cons (pe_tup pa_nil) (pa_cons (pe_lst pa_nil) pa_nil))))) (pa_cons (pe_tup (pa_cons pe_str (pa_cons pe_int pa_nil))) pa_nil))))))))
      (pss_cons (ps_set (i := 1) sc__law_odd.nd rfl (.inl rfl) (pe_op op_cat (pv 1) (pe_lst (pa_cons (pe_tup (pa_cons pe_str (pa_cons (pe_tup (pa_cons pe_int pa_nil)) (pa_cons (pe_tup pa_nil) (pa_cons (pe_lst pa_nil) pa_nil))))) (pa_cons (pe_tup (pa_cons pe_str (pa_cons (pe_lst (pa_cons pe_int pa_nil)) (pa_cons (pe_tup pa_nil) (pa_cons (pe_lst pa_nil) pa_nil))))) (pa_cons (pe_tup (pa_cons pe_str (pa_cons (pe_op op_sub pe_int pe_int) (pa_cons (pe_tup pa_nil) (pa_cons (pe_lst pa_nil) pa_nil))))) pa_nil))))))
      (pss_one (ps_ret (pe_ix (r := rIxL K) ix_list (pv 1) (pe_op op_mod (pe_call G__law_next (hr.mono (by decide)) (by rfl) g__law_next F__law_next.kp b__law_next .nil pass0 (pa_cons (pv 0) pa_nil)) pe_int) (fun _ _ => rfl)))))))))))))), ?_⟩
    refine w_st (σ' := [some (.ref D), none]) rfl ?_
    with_reducible refine w_seq ?_
    with_reducible refine w_asg ?_
    refine GvL.use (K := K) (ds := [.none, .tuple [], .str "wheel", .tuple [.str "wheel"], .tuple [.str "none", .int 0], .tuple [.str "none", .int 0, .int 0, .int 0], .tuple [.str "wheel", .int 1, .tuple []], .tuple [.str "wheel", .int 0, .tuple [], .list []]]) (by walk_at "gv") fun l0 vs0 H0 s0 h0 d0 => ?_
    with_reducible refine w_name (σ' := [some (.ref D), some (.ref l0)]) rfl ?_
    with_reducible refine w_seq ?_
    with_reducible refine w_asg ?_
    refine GvL.use (K := K) (gvL_cat (es := [.tuple [.str "wheel", .bool true, .tuple [], .list []], .tuple [.str "wheel", .int 1, .list [], .list []], .tuple [.str "wheel", .int 1, .tuple [], .tuple []], .tuple [.str "wheel", .int 1, .tuple [], .none]]) (gvL_var rfl h0 d0) (by walk_at "gv")) fun l1 vs1 H1 t1 h1 d1 => ?_
    with_reducible refine w_name (σ' := [some (.ref D), some (.ref l1)]) rfl ?_
    have s1 := s0.trans t1
    with_reducible refine w_seq ?_
    with_reducible refine w_asg ?_
    refine GvL.use (K := K) (gvL_cat (es := [.tuple [.str "none", .none, .int 0], .tuple [.str "none", .int 0, .bool true], .tuple [.str "none", .str "0", .str "1"], .tuple [.str "none", .int (-1), .int 0], .tuple [.str "none", .int (-1), .int (-1)]]) (gvL_var rfl h1 d1) (by walk_at "gv")) fun l2 vs2 H2 t2 h2 d2 => ?_
    with_reducible refine w_name (σ' := [some (.ref D), some (.ref l2)]) rfl ?_
    have s2 := s1.trans t2
    with_reducible refine w_seq ?_
    with_reducible refine w_asg ?_
    refine GvL.use (K := K) (gvL_cat (es := [.tuple [.str "wheel", .int (1000000000000000000000000000000000000000), .tuple [], .list []], .tuple [.str "none", .int (1000000000000000000000000000000000000000), .int (1000000000000000000000000000000000000000)], .tuple [.str "wheel", .int 1, .tuple [.int 0, .int 0], .list []]]) (gvL_var rfl h2 d2) (by walk_at "gv")) fun l3 vs3 H3 t3 h3 d3 => ?_
    with_reducible refine w_name (σ' := [some (.ref D), some (.ref l3)]) rfl ?_
    have s3 := s2.trans t3
    with_reducible refine w_seq ?_
    with_reducible refine w_asg ?_
    refine GvL.use (K := K) (gvL_cat (es := [.list [.tuple [.str "none", .int 0, .int 0]], .tuple [.str "Wheel", .int 1, .tuple [], .list []], .tuple [.str "none", .tuple [.int 0], .tuple [.int 0]], .tuple [.none, .int 1, .tuple [], .list []]]) (gvL_var rfl h3 d3) (by walk_at "gv")) fun l4 vs4 H4 t4 h4 d4 => ?_
    with_reducible refine w_name (σ' := [some (.ref D), some (.ref l4)]) rfl ?_
    have s4 := s3.trans t4
    with_reducible refine w_seq ?_
    with_reducible refine w_asg ?_
    refine GvL.use (K := K) (gvL_cat (es := [.tuple [.str "wheel", .int 1, .tuple [.int 1], .list []], .int 7, .bool true, .tuple [.str "wheel", .int 2, .tuple [.int 0, .none], .list [.tuple [.int 0, .int 1]]], .tuple [.str "wheel", .int 1, .tuple [.list [.int 0]], .list []]]) (gvL_var rfl h4 d4) (by walk_at "gv")) fun l5 vs5 H5 t5 h5 d5 => ?_
    with_reducible refine w_name (σ' := [some (.ref D), some (.ref l5)]) rfl ?_
    have s5 := s4.trans t5
    with_reducible refine w_seq ?_
    with_reducible refine w_asg ?_
    refine GvL.use (K := K) (gvL_cat (es := [.tuple [.str "wheel", .int 1, .tuple [.int 0, .str "0"], .list []], .tuple [.str "wheel", .int (1000000000000000000000000000000000000000), .tuple [.none], .list []], .tuple [.str "wheel", .int (1000000000000000000000000000000000000000), .tuple [.str "0"], .list []]]) (gvL_var rfl h5 d5) (by walk_at "gv")) fun l6 vs6 H6 t6 h6 d6 => ?_
    with_reducible refine w_name (σ' := [some (.ref D), some (.ref l6)]) rfl ?_
    have s6 := s5.trans t6
    with_reducible refine w_seq ?_
    with_reducible refine w_asg ?_
    refine GvL.use (K := K) (gvL_cat (es := [.tuple [.str "none", .bool false, .bool false], .tuple [.str "none", .bool true, .bool true], .tuple [.str "none", .int 0, .bool false], .tuple [.str "none", .int 1, .bool true], .tuple [.str "none"]]) (gvL_var rfl h6 d6) (by walk_at "gv")) fun l7 vs7 H7 t7 h7 d7 => ?_
    with_reducible refine w_name (σ' := [some (.ref D), some (.ref l7)]) rfl ?_
    have s7 := s6.trans t7
    with_reducible refine w_seq ?_
    with_reducible refine w_asg ?_
    refine GvL.use (K := K) (gvL_cat (es := [.tuple [.str "none", .bool false, .int 0], .tuple [.str "none", .bool true, .int 1], .tuple [.str "wheel", .none, .tuple [], .list []], .tuple [.str "wheel", .str "1", .tuple [], .list []], .tuple [.str "wheel", .int 1]]) (gvL_var rfl h7 d7) (by walk_at "gv")) fun l8 vs8 H8 t8 h8 d8 => ?_
    with_reducible refine w_name (σ' := [some (.ref D), some (.ref l8)]) rfl ?_
    have s8 := s7.trans t8
    with_reducible refine w_seq ?_
    with_reducible refine w_asg ?_
    refine GvL.use (K := K) (gvL_cat (es := [.tuple [.str "wheel", .tuple [.int 1], .tuple [], .list []], .tuple [.str "wheel", .list [.int 1], .tuple [], .list []], .tuple [.str "wheel", .int (-1), .tuple [], .list []]]) (gvL_var rfl h8 d8) (by walk_at "gv")) fun l9 vs9 H9 t9 h9 d9 => ?_
    with_reducible refine w_name (σ' := [some (.ref D), some (.ref l9)]) rfl ?_
    have s9 := s8.trans t9
    walk_at "ct"
    refine ⟨D, c, rfl, s9 _ _ hD, by omega, fun n1 _ _ => ?_⟩
    have dr := ((Dr.refl hD).same s9).trans (Dr.step (s9 _ _ hD) (c + 1))
    have hl := (Dr.step (s9 _ _ hD) (c + 1)).at (s9 _ _ hD) h9
    have hd := (Dr.step (s9 _ _ hD) (c + 1)).all (s9 _ _ hD) d9
    generalize upd H9 D _ = H9 at *
    walk_at "ct"
    refine w_mod (by decide) fun r r0 r1 => ?_
    refine w_some (.of hl) hd r0 r1 fun v d hdd hv => ?_
    walk_at "ct"
    refine q v d H9 dr hv (bn_all ?_ d hdd)
    decide +kernel
abbrev S__law_bent_wheel : Stmt := topS 63
theorem sc__law_bent_wheel : FnScope ["_law_draws_here", "_law_ways", "_law_shows", "_law_thing", "_law_word", "_law_teeth", "_law_marks_here", "_law_bars", "_law_way", "_law_at", "_law_number", "_law_two_here", "_law_new", "_law_k", "_law_some", "_law_bar", "_law_mark"] ["_law_draws_here", "_law_ways", "_law_shows", "_law_thing"] (defScope S__law_bent_wheel) := ⟨rfl, rfl, rfl, by decide +kernel, rfl, by decide +kernel, by decide +kernel⟩
def sp__law_bent_wheel (K : PySem.W.Frag) : Sp := fun vs H Q _ => ∃ (D b g m bl : Addr) (va : V) (c t : Nat) (ws us : List V) (ms : List Int) (bars : List (Nat × Nat)), vs = [.ref D, va, .ref b, .ref g] ∧ H D = some (DrO D c) ∧ c ≤ 890000 ∧ H b = some (.lst ws) ∧ ws.length ≤ 310 ∧ H g = some (.tup [.str "wheel", .int (t : Int), .ref m, .ref bl]) ∧ H m = some (.tup (ms.map V.int)) ∧ H bl = some (.lst us) ∧ DpAll K H us (bars.map barD) ∧ MdW t ms bars ∧
  ∀ v d c' H', Dr D c' H H' → c' ≤ c + 4 → Dp K H' v d → Bn d 8 2500 → Q v H'
theorem ok__law_bent_wheel {f : Addr} {fd : FuncData} {f__law_next : Addr} {fd__law_next : FuncData} (F : Fun K "_law_bent_wheel" "_law_bent_wheel" S__law_bent_wheel f fd)
    (F__law_next : Fun K "_law_next" "_law_next" S__law_next f__law_next fd__law_next) (b__law_next : Binds K fd__law_next ["_law_draws_here"] []) (g__law_next : mg "_law_next" = some (.ref f__law_next)) (G__law_next : FnOk P w K mg base CX0 1 f__law_next fd__law_next ["_law_draws_here"] (sp__law_next K)) (m_max : mg "max" = none) (m_len : mg "len" = none) (m_tuple : mg "tuple" = none) (m_list : mg "list" = none) (m_sorted : mg "sorted" = none) (m_set : mg "set" = none) (m_int : mg "int" = none) :
    FnOk P w K mg base CX0 2 f fd ["_law_draws_here", "_law_ways", "_law_shows", "_law_thing"] (sp__law_bent_wheel K) := by
  refine F.ok sc__law_bent_wheel (fun vs H Q E h => ?_) (fun cdv A outer s H vs Q E hr h => ?_)
  ·
    obtain ⟨D, b, g, m, bl, va, c, t, ws, us, ms, bars, rfl, _⟩ := h
    rfl
  ·
    obtain ⟨D, b, g, m, bl, va, c, t, ws, us, ms, bars, rfl, hD, hc, hb, wl, hg, hm, hbl, hu, md, q⟩ := h
    refine ⟨_, (pss_cons (ps_asg (pv 3) (pg_tup rfl (pgs_cons (pg_name (i := 4) sc__law_bent_wheel.nd rfl (.inl rfl)) (pgs_cons (pg_name (i := 5) sc__law_bent_wheel.nd rfl (.inr rfl)) (pgs_cons (pg_name (i := 6) sc__law_bent_wheel.nd rfl (.inl rfl)) (pgs_cons (pg_name (i := 7) sc__law_bent_wheel.nd rfl (.inl rfl)) pgs_nil))))))
      (pss_cons (ps_set (i := 8) sc__law_bent_wheel.nd rfl (.inl rfl) (pe_op op_mod (pe_call G__law_next (hr.mono (by decide)) (by rfl) g__law_next F__law_next.kp b__law_next .nil pass0 (pa_cons (pv 0) pa_nil)) pe_int))
      (pss_cons (ps_set (i := 9) sc__law_bent_wheel.nd rfl (.inl rfl) (pe_op op_mod (pe_call G__law_next (hr.mono (by decide)) (by rfl) g__law_next F__law_next.kp b__law_next .nil pass0 (pa_cons (pv 0) pa_nil)) (pe_callB (call_max2 rfl) (by rfl) m_max (by decide +kernel) (pa_cons pe_int (pa_cons (pe_callB call_len_seq (by rfl) m_len (by decide +kernel) (pa_cons (pv 7) pa_nil)) pa_nil)))))
      (pss_cons (ps_set (i := 10) sc__law_bent_wheel.nd rfl (.inl rfl) (pe_op op_mod (pe_call G__law_next (hr.mono (by decide)) (by rfl) g__law_next F__law_next.kp b__law_next .nil pass0 (pa_cons (pv 0) pa_nil)) (pe_op op_add (pe_callB call_len_seq (by rfl) m_len (by decide +kernel) (pa_cons (pv 2) pa_nil)) pe_int)))
      (pss_cons (ps_if (pt_cmpR op_eq (pv 8) pe_int (nomark _)) (pss_one (ps_ret (pe_tup (pa_cons (pv 4) (pa_cons (pv 5) (pa_cons (pe_callTy call_tuple_of (by rfl) m_tuple (by decide +kernel) (pa_cons (pe_callB (r := rSrtI w) (cr_srtI rfl) (by rfl) m_sorted (by decide +kernel) (pa_cons (pe_callTy (r := rSetI K w) (cr_setI rfl) (by rfl) m_set (by decide +kernel) (pa_cons (pe_op (r := rCatA K) op_catA (pv 6) (pe_tup (pa_cons (pe_op op_mod (pv 10) (pv 5)) pa_nil))) pa_nil)) pa_nil)) pa_nil)) (pa_cons (pv 7) pa_nil))))))) pss_nil)
      (pss_cons (ps_if (pt_cmpR op_eq (pv 8) pe_int (nomark _)) (pss_one (ps_ret (pe_tup (pa_cons (pv 4) (pa_cons (pv 5) (pa_cons (pe_op (r := rCatA K) op_catA (pe_slice (r := rSlA K) sl_tupA (pv 6) po_none (po_some (pv 9))) (pe_slice (r := rSlA K) sl_tupA (pv 6) (po_some (pe_op op_add (pv 9) pe_int)) po_none)) (pa_cons (pv 7) pa_nil))))))) pss_nil)
      (pss_cons (ps_if (pt_cmpR op_eq (pv 8) pe_int (nomark _)) (pss_one (ps_ret (pe_tup (pa_cons (pv 4) (pa_cons (pv 5) (pa_cons (pe_op (r := rCatA K) op_catA (pe_revTw (K0 := K) rfl (pv 6)) (pe_op (r := rRepZ K) op_repZ (pe_tup (pa_cons (pv 5) pa_nil)) (pe_op op_mod (pv 10) pe_int))) (pa_cons (pv 7) pa_nil))))))) pss_nil)
      (pss_cons (ps_if (pt_cmpR op_eq (pv 8) pe_int (nomark _)) (pss_one (ps_ret (pe_tup (pa_cons (pv 4) (pa_cons (pe_op op_add (pv 5) pe_int) (pa_cons (pv 6) (pa_cons (pe_op op_cat (pv 7) (pe_lst (pa_cons (pe_tup (pa_cons (pv 10) (pa_cons (pe_op op_add (pv 10) pe_int) pa_nil))) pa_nil))) pa_nil))))))) pss_nil)
      (pss_cons (ps_if (pt_cmpR op_eq (pv 8) pe_int (nomark _)) (pss_one (ps_ret (pe_tup (pa_cons (pv 4) (pa_cons (pe_callB (call_max2 rfl) (by rfl) m_max (by decide +kernel) (pa_cons pe_int (pa_cons (pe_op op_sub (pv 5) pe_int) pa_nil))) (pa_cons (pe_callTy call_tuple_of (by rfl) m_tuple (by decide +kernel) (pa_cons (pe_lc (own := [("_law_mark", 16)]) (g := gName 16)  rfl sc__law_bent_wheel.nd  (pi_tup (pv 6)) (blkOk_by (own := [("_law_mark", 16)]) (N := ["_law_draws_here", "_law_ways", "_law_shows", "_law_thing", "_law_word", "_law_teeth", "_law_marks_here", "_law_bars", "_law_way", "_law_at", "_law_number", "_law_two_here", "_law_new", "_law_k", "_law_some", "_law_bar", "_law_mark"]) (sc := defScope S__law_bent_wheel) (by decide +kernel)) (fun _ _ _ _ _ => pg_name (i := 16) sc__law_bent_wheel.nd rfl (Or.inl rfl)) (fun _ _ _ _ _ => (pts_one (pt_cmpR op_lt (pv 16) (pe_op op_sub (pv 5) pe_int) (nomark _)))) (fun _ _ _ _ _ => (pv 16))) pa_nil)) (pa_cons (pe_slice (r := rSlL K) sl_list (pv 7) po_none (po_some (pe_un un_neg pe_int))) pa_nil))))))) pss_nil)
      (pss_cons (ps_if (pt_cmpR op_eq (pv 8) pe_int (nomark _)) (pss_one (ps_ret (pe_tup (pa_cons (pv 4) (pa_cons (pv 5) (pa_cons (pv 6) (pa_cons (pe_revL (pv 7)) pa_nil))))))) pss_nil)
      (pss_cons (ps_set (i := 11) sc__law_bent_wheel.nd rfl (.inl rfl) (pe_lst (pa_cons (pe_tup (pa_cons (pv 10) (pa_cons (pe_op op_add (pv 10) pe_int) pa_nil))) (pa_cons (pe_tup (pa_cons (pe_op op_add (pv 10) pe_int) (pa_cons (pv 10) pa_nil))) (pa_cons (pe_lst (pa_cons pe_int (pa_cons pe_int pa_nil))) (pa_cons (pe_tup (pa_cons pe_int (pa_cons pe_int (pa_cons pe_int pa_nil)))) (pa_cons (pe_tup (pa_cons (pe_op op_sub pe_int pe_int) (pa_cons (pv 10) pa_nil))) (pa_cons (pe_tup (pa_cons (pv 10) (pa_cons (pe_op op_add (pv 10) pe_int) pa_nil))) pa_nil))))))))
      (pss_cons (ps_set (i := 11) sc__law_bent_wheel.nd rfl (.inl rfl) (pe_op op_cat (pv 11) (pe_lst (pa_cons (pe_tup (pa_cons pe_bl (pa_cons pe_bl pa_nil))) (pa_cons (pe_tup (pa_cons pe_bl (pa_cons (pv 10) pa_nil))) pa_nil)))))
      (pss_cons (ps_set (i := 11) sc__law_bent_wheel.nd rfl (.inl rfl) (pe_op op_cat (pv 11) (pe_lst (pa_cons pe_non (pa_cons pe_int (pa_cons pe_bl (pa_cons pe_str (pa_cons (pe_tup pa_nil) (pa_cons (pe_tup (pa_cons pe_int pa_nil)) (pa_cons (pe_tup (pa_cons pe_int (pa_cons pe_non pa_nil))) (pa_cons (pe_tup (pa_cons pe_non (pa_cons pe_int pa_nil))) (pa_cons (pe_tup (pa_cons pe_str (pa_cons pe_int pa_nil))) pa_nil))))))))))))
      (pss_cons (ps_set (i := 11) sc__law_bent_wheel.nd rfl (.inl rfl) (pe_op op_cat (pv 11) (pe_op op_rep (pe_lc (own := [("_law_bar", 15)]) (g := gName 15)  rfl sc__law_bent_wheel.nd  (pi_list (pe_slice (r := rSlL K) sl_list (pv 7) (po_some (pv 9)) (po_some (pe_op op_add (pv 9) pe_int)))) (blkOk_by (own := [("_law_bar", 15)]) (N := ["_law_draws_here", "_law_ways", "_law_shows", "_law_thing", "_law_word", "_law_teeth", "_law_marks_here", "_law_bars", "_law_way", "_law_at", "_law_number", "_law_two_here", "_law_new", "_law_k", "_law_some", "_law_bar", "_law_mark"]) (sc := defScope S__law_bent_wheel) (by decide +kernel)) (fun _ _ _ _ _ => pg_name (i := 15) sc__law_bent_wheel.nd rfl (Or.inl rfl)) (fun _ _ _ _ _ => pts_nil) (fun _ _ _ _ _ => (pe_revTw (K0 := K) rfl (pv 15)))) pe_int)))
      (pss_cons (ps_if (pt_cmpR op_lt (pv 8) pe_int (nomark _)) (pss_cons (ps_set (i := 12) sc__law_bent_wheel.nd rfl (.inl rfl) (pe_slice (r := rSlL K) sl_list (pe_slice (r := rSlL K) sl_list (pv 11) (po_some (pe_op op_mod (pe_call G__law_next (hr.mono (by decide)) (by rfl) g__law_next F__law_next.kp b__law_next .nil pass0 (pa_cons (pv 0) pa_nil)) (pe_callB call_len_seq (by rfl) m_len (by decide +kernel) (pa_cons (pv 11) pa_nil)))) po_none) po_none (po_some pe_int)))
      (pss_one (ps_ret (pe_tup (pa_cons (pv 4) (pa_cons (pv 5) (pa_cons (pv 6) (pa_cons (pe_op op_cat (pe_op op_cat (pe_slice (r := rSlL K) sl_list (pv 7) po_none (po_some (pv 9))) (pv 12)) (pe_slice (r := rSlL K) sl_list (pv 7) (po_some (pe_op op_add (pv 9) pe_int)) po_none)) pa_nil)))))))) pss_nil)
      (pss_cons (ps_if (PW.pt (pw_and (pt_cmpR op_eq (pv 8) pe_int (nomark _)) (pw_and (pt_cmpR op_eq (pe_op op_mod (pv 10) pe_int) pe_int (nomark _)) (pw_and1 (pt_cmpR (r := rNeD K) (op_neD hr.units) (pv 6) (pe_tup pa_nil) (nomark _)))))) (pss_cons (ps_set (i := 13) sc__law_bent_wheel.nd rfl (.inl rfl) (pe_op op_mod (pe_op op_fdivW (pv 10) pe_int) (pe_callB call_len_seq (by rfl) m_len (by decide +kernel) (pa_cons (pv 6) pa_nil))))
      (pss_one (ps_ret (pe_tup (pa_cons (pv 4) (pa_cons (pv 5) (pa_cons (pe_op (r := rCatA K) op_catA (pe_op (r := rCatA K) op_catA (pe_slice (r := rSlA K) sl_tupA (pv 6) po_none (po_some (pv 13))) (pe_tup (pa_cons (pe_ix (r := rIxL K) ix_list (pe_lst (pa_cons (pe_ix (r := rIxT K) ix_tup (pv 6) (pv 13) (fun _ _ => rfl)) (pa_cons (pe_cmpR op_eq (pe_ix (r := rIxT K) ix_tup (pv 6) (pv 13) (fun _ _ => rfl)) pe_int (nomark _)) pa_nil))) (pe_callTy call_int1 (by rfl) m_int (by decide +kernel) (pa_cons (pe_cmpR (r := rIn K false) op_in_seq (pe_ix (r := rIxT K) ix_tup (pv 6) (pv 13) (fun _ _ => rfl)) (pe_lst (pa_cons pe_int (pa_cons pe_int pa_nil))) (by rfl)) pa_nil)) (fun _ _ => rfl)) pa_nil))) (pe_slice (r := rSlA K) sl_tupA (pv 6) (po_some (pe_op op_add (pv 13) pe_int)) po_none)) (pa_cons (pv 7) pa_nil)))))))) pss_nil)
      (pss_cons (ps_if (pt_cmpR op_eq (pv 8) pe_int (nomark _)) (pss_one (ps_ret (pe_tup (pa_cons (pv 4) (pa_cons (pv 5) (pa_cons (pe_callTy call_tuple_of (by rfl) m_tuple (by decide +kernel) (pa_cons (pe_lc (own := [("_law_mark", 16)]) (g := gName 16)  rfl sc__law_bent_wheel.nd  (pi_tup (pv 6)) (blkOk_by (own := [("_law_mark", 16)]) (N := ["_law_draws_here", "_law_ways", "_law_shows", "_law_thing", "_law_word", "_law_teeth", "_law_marks_here", "_law_bars", "_law_way", "_law_at", "_law_number", "_law_two_here", "_law_new", "_law_k", "_law_some", "_law_bar", "_law_mark"]) (sc := defScope S__law_bent_wheel) (by decide +kernel)) (fun _ _ _ _ _ => pg_name (i := 16) sc__law_bent_wheel.nd rfl (Or.inl rfl)) (fun _ _ _ _ _ => pts_nil) (fun _ _ _ _ _ => (pe_ix (r := rIxL K) ix_list (pe_lst (pa_cons (pv 16) (pa_cons (pe_cmpR op_eq (pv 16) pe_int (nomark _)) pa_nil))) (pe_callTy call_int1 (by rfl) m_int (by decide +kernel) (pa_cons (pe_cmpR op_lt (pv 16) pe_int (nomark _)) pa_nil)) (fun _ _ => rfl)))) pa_nil)) (pa_cons (pv 7) pa_nil))))))) pss_nil)
      (pss_cons (ps_set (i := 14) sc__law_bent_wheel.nd rfl (.inl rfl) (pe_lst (pa_cons (pe_tup (pa_cons (pv 6) (pa_cons (pe_callTy call_tuple_of (by rfl) m_tuple (by decide +kernel) (pa_cons (pv 7) pa_nil)) pa_nil))) (pa_cons (pe_tup (pa_cons (pe_callTy call_list_of (by rfl) m_list (by decide +kernel) (pa_cons (pv 6) pa_nil)) (pa_cons (pv 7) pa_nil))) (pa_cons (pe_tup (pa_cons (pv 6) (pa_cons (pe_op op_cat (pv 7) (pe_lst (pa_cons (pe_tup (pa_cons pe_int (pa_cons pe_int pa_nil))) pa_nil))) pa_nil))) (pa_cons (pe_tup (pa_cons (pv 6) (pa_cons (pe_slice (r := rSlL K) sl_list (pv 7) po_none (po_some (pe_un un_neg pe_int))) pa_nil))) pa_nil))))))
      (pss_cons (ps_set (i := 14) sc__law_bent_wheel.nd rfl (.inl rfl) (pe_op op_cat (pv 14) (pe_lst (pa_cons (pe_tup (pa_cons (pe_callTy call_tuple_of (by rfl) m_tuple (by decide +kernel) (pa_cons (pe_callB (r := rSrtT K) cr_srtT (by rfl) m_sorted (by decide +kernel) (pa_cons (pe_op (r := rCatA K) op_catA (pv 6) (pe_slice (r := rSlA K) sl_tupA (pv 6) po_none (po_some pe_int))) pa_nil)) pa_nil)) (pa_cons (pv 7) pa_nil))) (pa_cons (pe_tup (pa_cons (pe_op (r := rCatA K) op_catA (pe_tup (pa_cons (pe_op op_sub pe_int pe_int) pa_nil)) (pv 6)) (pa_cons (pv 7) pa_nil))) pa_nil)))))
      (pss_one (ps_ret (pe_op (r := rCatA K) op_catA (pe_tup (pa_cons (pv 4) (pa_cons (pv 5) pa_nil))) (pe_ix (r := rIxL K) ix_list (pv 14) (pe_op op_mod (pv 10) pe_int) (fun _ _ => rfl)))))))))))))))))))))))), ?_⟩
    refine w_st (σ' := [some (.ref D), some va, some (.ref b), some (.ref g), none, none, none, none, none, none, none, none, none, none, none, none, none]) rfl ?_
    have ul : us.length = bars.length := by rw [dpAll_len hu, List.length_map]
    have t1 := md.t1
    have t2 := md.t2
    have bln := md.bl
    walk_at "ct"
    refine w_gtup (.of hg) rfl ?_
    walk_at "ct"
    refine ⟨D, c, rfl, hD, by omega, fun x1 _ _ => ?_⟩
    have st1 := Dr.step hD (c + 1)
    generalize upd H D _ = H1 at *
    walk_at "ct"
    refine w_mod (by decide) fun way w0 w1 => ?_
    walk_at "ct"
    refine ⟨D, c + 1, rfl, st1.2, by omega, fun x2 _ _ => ?_⟩
    have st2 := st1.trans (Dr.step st1.2 (c + 2))
    generalize upd H1 D _ = H2 at *
    walk_at "ct"
    refine ⟨bl, us, rfl, .inl (.of (st2.at hD hbl)), ?_⟩
    walk_at "ct"
    refine ⟨_, _, rfl, ?_⟩
    walk_at "ct"
    refine w_mod (by split <;> omega) fun at_ at0 at1 => ?_
    walk_at "ct"
    refine ⟨D, c + 2, rfl, st2.2, by omega, fun x3 _ _ => ?_⟩
    have st3 := st2.trans (Dr.step st2.2 (c + 3))
    generalize upd H2 D _ = H3 at *
    walk_at "ct"
    refine ⟨b, ws, rfl, .inl (.of (st3.at hD hb)), ?_⟩
    walk_at "ct"
    refine w_mod (by omega) fun nb nb0 nb1 => ?_
    have hm3 := st3.at hD hm
    have hbl3 := st3.at hD hbl
    have hu3 := st3.all hD hu
    clear st1 st2 hb hg
    have M3 : TB K H3 (.ref m) 1 320 := .ints (.of hm3) (fun z hz => by have := md.mr z hz; omega) md.ml
    have B3 : LsB K H3 (.ref bl) 1 960 := ⟨bl, us, _, rfl, hbl3, hu3, BnA.bars (fun x hx => by have := md.bs x hx; omega) (by omega)⟩
    have fin : ∀ (G : Hp) (c' : Nat) (p : Addr) (x y : V) (tt : Int), Dr D c' H G → c' ≤ c + 4 → VB K G x 6 400 → VB K G y 6 2050 → tt.natAbs < 2 ^ 200 → G p = none → Q (.ref p) (upd G p (.tup [.str "wheel", .int tt, x, y])) := fun G c' p x y tt dr cl hx hy ht np => by
      obtain ⟨dx, hx1, hx2⟩ := hx
      obtain ⟨dy, hy1, hy2⟩ := hy
      have wd : Bn (.str "wheel") 6 5 := bn_by (by decide +kernel)
      refine q _ (.tuple [.str "wheel", .int tt, dx, dy]) c' _ (dr.same (same_upd np)) cl (.tup (.of upd_same) (.cons (.str _) (.cons (.int _) (.cons (dp_same (same_upd np) hx1) (.cons (dp_same (same_upd np) hy1) .nil))))) ?_
      exact ((BnA.cons wd (BnA.cons (Bn.int (i := tt) (n := 6) (m := 0) ht) (BnA.cons hx2 (BnA.cons hy2 .nil0)))).mono (m' := 2500) (Nat.le_refl _) (by omega)).tup.mono (by decide) (Nat.le_refl _)
    have fin2 : ∀ (G : Hp) (c' : Nat) (p : Addr) (x y : V) (tt : Int), Dr D c' H G → c' ≤ c + 4 → VB K G x 6 1300 → VB K G y 6 1100 → tt.natAbs < 2 ^ 200 → G p = none → Q (.ref p) (upd G p (.tup [.str "wheel", .int tt, x, y])) := fun G c' p x y tt dr cl hx hy ht np => by
      obtain ⟨dx, hx1, hx2⟩ := hx
      obtain ⟨dy, hy1, hy2⟩ := hy
      have wd : Bn (.str "wheel") 6 5 := bn_by (by decide +kernel)
      refine q _ (.tuple [.str "wheel", .int tt, dx, dy]) c' _ (dr.same (same_upd np)) cl (.tup (.of upd_same) (.cons (.str _) (.cons (.int _) (.cons (dp_same (same_upd np) hx1) (.cons (dp_same (same_upd np) hy1) .nil))))) ?_
      exact ((BnA.cons wd (BnA.cons (Bn.int (i := tt) (n := 6) (m := 0) ht) (BnA.cons hx2 (BnA.cons hy2 .nil0)))).mono (m' := 2500) (Nat.le_refl _) (by omega)).tup.mono (by decide) (Nat.le_refl _)
    have MV : ∀ G, Same H3 G → VB K G (.ref m) 6 400 := fun G s => (M3.same s).vb.mono (by decide) (by decide)
    have BV : ∀ G, Same H3 G → VB K G (.ref bl) 6 2050 := fun G s => (B3.same s).vb.mono (by decide) (by decide)
    have BV2 : ∀ G, Same H3 G → VB K G (.ref bl) 6 1100 := fun G s => (B3.same s).vb.mono (by decide) (by decide)
    walk_at "ct"
    refine w_ite (fun _ => ?_) (fun _ => ?_)
    · walk_at "ct"
      refine w_mod (by omega) fun r r0 r1 => ?_
      walk_at "ct"
      refine ⟨len2 rfl, fun n1 nn1 => ?_⟩
      have u1 : Same H3 (upd H3 n1 (.tup [.int r])) := same_upd nn1
      have hn1 : (upd H3 n1 (.tup [.int r])) n1 = some (.tup [.int r]) := upd_same
      generalize upd H3 n1 _ = H4 at *
      refine w_catA (.of (u1 _ _ hm3)) (.of hn1) (by have := md.ml; rw [List.length_map]; show ms.length + 1 ≤ 1000; omega) fun n2 H5 u2 hn2 => ?_
      rw [show ms.map V.int ++ [V.int r] = (ms ++ [r]).map V.int by rw [List.map_append]; rfl] at hn2
      have ml := md.ml
      have ml2 : (ms ++ [r]).length ≤ 321 := by rw [List.length_append]; show ms.length + 1 ≤ 321; omega
      walk_at "ct"
      refine ⟨n2, ms ++ [r], rfl, .inr hn2, by omega, fun s1 k ns1 kl => ?_⟩
      have u3 : Same H5 (upd H5 s1 (IntSet w s1 (fun j => decide (j ∈ ms ++ [r]), k))) := same_upd ns1
      have hs1 : (upd H5 s1 (IntSet w s1 (fun j => decide (j ∈ ms ++ [r]), k))) s1 = some (IntSet w s1 (fun j => decide (j ∈ ms ++ [r]), k)) := upd_same
      generalize upd H5 s1 _ = H6 at *
      walk_at "ct"
      refine ⟨s1, _, rfl, hs1, fun ns p _ mem nl np => ?_⟩
      have u4 : Same H6 (upd H6 p (.lst (ns.map V.int))) := same_upd np
      have hp : (upd H6 p (.lst (ns.map V.int))) p = some (.lst (ns.map V.int)) := upd_same
      generalize upd H6 p _ = H7 at *
      have bnd : ∀ z ∈ ns, z.natAbs < 2 ^ 200 := fun z hz => by
        have := of_decide_eq_true ((mem z).mp hz)
        rcases List.mem_append.mp this with h | h
        · have := md.mr z h
          omega
        · rw [List.mem_singleton.mp h]
          omega
      have nl : ns.length ≤ 321 := by rw [nl]; exact Nat.le_trans kl ml2
      walk_at "ct"
      refine ⟨p, ns.map V.int, rfl, .inl ⟨.of hp, fun v nv => ?_⟩⟩
      have u5 : Same H7 (upd H7 v (.tup (ns.map V.int))) := same_upd nv
      have hv : TB K (upd H7 v (.tup (ns.map V.int))) (.ref v) 1 321 := .ints (.of upd_same) bnd nl
      generalize upd H7 v _ = H8 at *
      have s8 := (u1.trans u2).trans ((u3.trans u4).trans u5)
      walk_at "ct"
      refine ⟨len2 rfl, fun p2 np2 => ?_⟩
      walk_at "ct"
      exact fin H8 _ p2 _ _ _ (st3.same s8) (by omega) (hv.vb.mono (by decide) (by decide)) (BV _ s8) (by omega) np2
    walk_at "ct"
    refine w_ite (fun _ => ?_) (fun _ => ?_)
    · walk_at "ct"
      refine w_slTB M3 fun v1 H4 u1 h1 => ?_
      walk_at "ct"
      refine w_slTB (M3.same u1) fun v2 H5 u2 h2 => ?_
      refine w_catTB (h1.same u2) h2 (by decide) fun v3 H6 u3 h3 => ?_
      have s6 := (u1.trans u2).trans u3
      walk_at "ct"
      refine ⟨len2 rfl, fun p2 np2 => ?_⟩
      walk_at "ct"
      exact fin2 H6 _ p2 _ _ _ (st3.same s6) (by omega) (h3.vb.mono (by decide) (by decide)) (BV2 _ s6) (by omega) np2
    walk_at "ct"
    refine w_ite (fun _ => ?_) (fun _ => ?_)
    · walk_at "ct"
      refine w_revT ?_
      walk_at "ct"
      refine ⟨m, ms.map V.int, rfl, .of hm3, fun v1 nv1 => ?_⟩
      have u1 : Same H3 (upd H3 v1 (.tup (ms.map V.int).reverse)) := same_upd nv1
      have h1 : TB K (upd H3 v1 (.tup (ms.map V.int).reverse)) (.ref v1) 1 320 := ⟨v1, _, _, rfl, .of upd_same, dpAll_rev (dpAll_ints ms), (BnA.ints (n := 1) (fun z hz => by have := md.mr z hz; omega) md.ml).rev⟩
      generalize upd H3 v1 _ = H4 at *
      walk_at "ct"
      refine ⟨len2 rfl, fun n1 nn1 => ?_⟩
      have u2 : Same H4 (upd H4 n1 (.tup [.int (t : Int)])) := same_upd nn1
      have hn1 : (upd H4 n1 (.tup [.int (t : Int)])) n1 = some (.tup [.int (t : Int)]) := upd_same
      generalize upd H4 n1 _ = H5 at *
      walk_at "ct"
      refine w_mod (by decide) fun r r0 r1 => ?_
      refine w_repZ (.of hn1) (fun z => nomatch z) r0 (by omega) (show 1 ≤ 1000 by decide) fun n2 H6 u3 hn2 => ?_
      have h2 : TB K H6 (.ref n2) 1 1 := by
        have : r = 0 ∨ r = 1 := by omega
        rcases this with rfl | rfl
        · exact (TB.nil (n := 1) hn2).mono (Nat.le_refl _) (by decide)
        · exact TB.one (n := 1) (m := 0) hn2 (.int (by omega))
      refine w_catTB ((h1.same u2).same u3) h2 (by decide) fun v3 H7 u4 h3 => ?_
      have s7 := ((u1.trans u2).trans u3).trans u4
      walk_at "ct"
      refine ⟨len2 rfl, fun p2 np2 => ?_⟩
      walk_at "ct"
      exact fin H7 _ p2 _ _ _ (st3.same s7) (by omega) (h3.vb.mono (by decide) (by decide)) (BV _ s7) (by omega) np2
    walk_at "ct"
    refine w_ite (fun _ => ?_) (fun _ => ?_)
    · walk_at "ct"
      refine ⟨len2 rfl, fun n1 nn1 => ?_⟩
      have u1 : Same H3 (upd H3 n1 (.tup [.int nb, .int (nb + 1)])) := same_upd nn1
      have hn1 : (upd H3 n1 (.tup [.int nb, .int (nb + 1)])) n1 = some (.tup [.int nb, .int (nb + 1)]) := upd_same
      generalize upd H3 n1 _ = H4 at *
      walk_at "ct"
      refine ⟨len2 rfl, fun n2 nn2 => ?_⟩
      have u2 : Same H4 (upd H4 n2 (.lst [.ref n1])) := same_upd nn2
      have hn2 : (upd H4 n2 (.lst [.ref n1])) n2 = some (.lst [.ref n1]) := upd_same
      generalize upd H4 n2 _ = H5 at *
      have h2 : LsB K H5 (.ref n2) 1 3 := LsB.one (n := 1) (m := 2) hn2 ((TB.two (n := 0) (m := 0) (k := 0) (.of (u2 _ _ hn1)) (.int (by omega)) (.int (by omega))).vb.mono (by decide) (by decide))
      refine w_catLB (B3.same (u1.trans u2)) h2 (by decide) fun v3 H6 u3 h3 => ?_
      have s6 := (u1.trans u2).trans u3
      walk_at "ct"
      refine ⟨len2 rfl, fun p2 np2 => ?_⟩
      walk_at "ct"
      exact fin H6 _ p2 _ _ _ (st3.same s6) (by omega) (MV _ s6) (h3.vb.mono (by decide) (by decide)) (by omega) np2
    walk_at "ct"
    refine w_ite (fun _ => ?_) (fun _ => ?_)
    · walk_at "ct"
      refine ⟨_, _, rfl, ?_⟩
      walk_at "ct"
      refine w_IT (.of hm3) ?_
      refine lb_tup (ms.map V.int) (fun D2 k G => Same H3 G ∧ ∃ ns : List Int, G D2 = some (.lst (ns.map V.int)) ∧ ns.length ≤ k ∧ ∀ z ∈ ns, z ∈ ms) (fun D2 hD2 => ⟨same_upd hD2, [], upd_same, Nat.le_refl _, fun _ z => nomatch z⟩) (fun D2 hD2 k G _ h => .of (h.1 _ _ hm3)) ?_ ?_
      · rintro D2 hD2 k x G hx ⟨sG, ns, hG, nl, nm⟩
        have hk : k < ms.length := by have := (List.getElem?_eq_some_iff.mp hx).1; rw [List.length_map] at this; exact this
        obtain ⟨z, hz, rfl⟩ : ∃ z : Int, ms[k]? = some z ∧ x = .int z := by
          rw [List.getElem?_map] at hx
          cases e : ms[k]? with
          | none => rw [e] at hx; cases hx
          | some z => rw [e] at hx; exact ⟨z, rfl, (Option.some.inj hx).symm⟩
        walk_at "ct"
        refine ⟨rfl, ?_⟩
        walk_at "ct"
        have ml := md.ml
        refine w_ite (fun _ => ?_) (fun _ => ?_)
        · walk_at "ct"
          refine ⟨_, hG, by rw [List.length_map]; exact small1000 (by omega), same_new sG hD2, ns ++ [z], ?_, by rw [List.length_append]; show ns.length + 1 ≤ k + 1; omega, fun y hy => ?_⟩
          · rw [upd_same, List.map_append]
            rfl
          · rcases List.mem_append.mp hy with h | h
            · exact nm y h
            · rw [List.mem_singleton.mp h]
              exact List.mem_of_getElem? hz
        · exact ⟨sG, ns, hG, by omega, nm⟩
      rintro D2 nD2 H4 ⟨u1, ns, hn, nl, nm⟩
      rw [List.length_map] at nl
      have ml := md.ml
      walk_at "ct"
      refine ⟨D2, ns.map V.int, rfl, .inl ⟨.of hn, fun v nv => ?_⟩⟩
      have u2 : Same H4 (upd H4 v (.tup (ns.map V.int))) := same_upd nv
      have hv : TB K (upd H4 v (.tup (ns.map V.int))) (.ref v) 1 320 := .ints (.of upd_same) (fun z hz => by have := md.mr z (nm z hz); omega) (by omega)
      generalize upd H4 v _ = H5 at *
      walk_at "ct"
      refine w_slLB (B3.same (u1.trans u2)) fun v3 H6 u3 h3 => ?_
      have s6 := (u1.trans u2).trans u3
      walk_at "ct"
      refine ⟨len2 rfl, fun p2 np2 => ?_⟩
      walk_at "ct"
      exact fin H6 _ p2 _ _ _ (st3.same s6) (by omega) ((hv.same u3).vb.mono (by decide) (by decide)) (h3.vb.mono (by decide) (by decide)) (by split <;> omega) np2
    walk_at "ct"
    refine w_ite (fun _ => ?_) (fun _ => ?_)
    · walk_at "ct"
      refine ⟨bl, us, rfl, .of hbl3, fun v1 nv1 => ?_⟩
      have u1 : Same H3 (upd H3 v1 (.lst us.reverse)) := same_upd nv1
      have h1 : LsB K (upd H3 v1 (.lst us.reverse)) (.ref v1) 1 960 := ⟨v1, _, _, rfl, upd_same, dpAll_same u1 (dpAll_rev hu3), (BnA.bars (fun x hx => by have := md.bs x hx; omega) (by omega)).rev⟩
      generalize upd H3 v1 _ = H4 at *
      walk_at "ct"
      refine ⟨len2 rfl, fun p2 np2 => ?_⟩
      walk_at "ct"
      exact fin H4 _ p2 _ _ _ (st3.same u1) (by omega) (MV _ u1) (h1.vb.mono (by decide) (by decide)) (by omega) np2
    with_reducible refine w_next ?_
    with_reducible refine w_seq ?_
    with_reducible refine w_asg ?_
    refine GvL.use (K := K) (ds := [.tuple [.int nb, .int (nb + 1)], .tuple [.int (nb + 1), .int nb], .list [.int 0, .int 1], .tuple [.int 0, .int 1, .int 2], .tuple [.int (-1), .int nb], .tuple [.int nb, .int (nb + 2)]]) (by walk_at "gv") fun l1 vs1 H4 s4 h4 d4 => ?_
    with_reducible refine w_name (σ' := [some (.ref D), some va, some (.ref b), some (.ref g), some (.str "wheel"), some (.int (t : Int)), some (.ref m), some (.ref bl), some (.int way), some (.int at_), some (.int nb), some (.ref l1), none, none, none, none, none]) rfl ?_
    with_reducible refine w_seq ?_
    with_reducible refine w_asg ?_
    refine GvL.use (K := K) (gvL_cat (es := [.tuple [.bool false, .bool true], .tuple [.bool false, .int nb]]) (gvL_var rfl h4 d4) (by walk_at "gv")) fun l2 vs2 H5 s5 h5 d5 => ?_
    with_reducible refine w_name (σ' := [some (.ref D), some va, some (.ref b), some (.ref g), some (.str "wheel"), some (.int (t : Int)), some (.ref m), some (.ref bl), some (.int way), some (.int at_), some (.int nb), some (.ref l2), none, none, none, none, none]) rfl ?_
    with_reducible refine w_seq ?_
    with_reducible refine w_asg ?_
    refine GvL.use (K := K) (gvL_cat (es := [.none, .int 7, .bool true, .str "01", .tuple [], .tuple [.int 0], .tuple [.int 0, .none], .tuple [.none, .int 1], .tuple [.str "0", .int 1]]) (gvL_var rfl h5 d5) (by walk_at "gv")) fun l3 vs3 H6 s6 h6 d6 => ?_
    with_reducible refine w_name (σ' := [some (.ref D), some va, some (.ref b), some (.ref g), some (.str "wheel"), some (.int (t : Int)), some (.ref m), some (.ref bl), some (.int way), some (.int at_), some (.int nb), some (.ref l3), none, none, none, none, none]) rfl ?_
    have s36 := (s4.trans s5).trans s6
    have L6 : LsB K H6 (.ref l3) 1 100 := by
      refine ⟨l3, _, _, rfl, h6, d6, ?_⟩
      have z : ∀ {i : Int} {n : Nat}, i.natAbs < 2 ^ 200 → Bn (.int i) n 0 := fun h => Bn.int h
      have a1 : nb.natAbs < 2 ^ 200 := by omega
      have a2 : (nb + 1).natAbs < 2 ^ 200 := by omega
      have a3 : (nb + 2).natAbs < 2 ^ 200 := by omega
      have r1 := BnA.cons (Bn.two (z a1) (z a2)) (BnA.cons (Bn.two (z a2) (z a1)) (BnA.cons (d := .list [.int 0, .int 1]) (n := 1) (m := 2) (bn_by (by decide +kernel)) (BnA.cons (d := .tuple [.int 0, .int 1, .int 2]) (n := 1) (m := 3) (bn_by (by decide +kernel)) (BnA.cons (Bn.two (z (i := -1) (by decide)) (z a1)) (BnA.cons (Bn.two (z a1) (z a3)) .nil0)))))
      have r2 := BnA.cons (d := .tuple [.bool false, .bool true]) (n := 1) (m := 2) (bn_by (by decide +kernel)) (BnA.cons (Bn.two (x := .bool false) Bn.bl (z a1)) .nil0)
      have r3 : BnA [.none, .int 7, .bool true, .str "01", .tuple [], .tuple [.int 0], .tuple [.int 0, .none], .tuple [.none, .int 1], .tuple [.str "0", .int 1]] 1 40 := ⟨by decide +kernel, by decide +kernel, by decide +kernel, by decide +kernel⟩
      exact ((r1.app r2).app r3).mono (Nat.le_refl _) (by decide)
    with_reducible refine w_seq ?_
    walk_at "cq"
    refine w_slL (.of (s36 _ _ hbl3)) fun sl nsl => ?_
    obtain ⟨bs, hbs, bsl, bsm⟩ := cut_one (H := H6) at0 (dpAll_same s36 hu3)
    have u7 : Same H6 (upd H6 sl (.lst (cutV us (some at_) (some (at_ + 1))))) := same_upd nsl
    have hsl : (upd H6 sl (.lst (cutV us (some at_) (some (at_ + 1))))) sl = some (.lst (cutV us (some at_) (some (at_ + 1)))) := upd_same
    generalize upd H6 sl _ = H7 at *
    generalize cutV us (some at_) (some (at_ + 1)) = xs at *
    have xl : xs.length = bs.length := by rw [dpAll_len hbs, List.length_map]
    walk_at "cq"
    refine w_IL (.of hsl) ?_
    refine lb_list xs (fun D2 k G => Same H7 G ∧ ∃ (vs2 : List V) (bs2 : List (Nat × Nat)), G D2 = some (.lst vs2) ∧ DpAll K G vs2 (bs2.map barD) ∧ bs2.length = k ∧ ∀ x ∈ bs2, x.1 ≤ 320 ∧ x.2 ≤ 320) (fun D2 hD2 => ⟨same_upd hD2, [], [], upd_same, .nil, rfl, fun _ z => nomatch z⟩) (fun D2 hD2 k G _ h => .of (h.1 _ _ hsl)) ?_ ?_
    · rintro D2 hD2 k x G hx ⟨sG, vs2, bs2, hG, hd2, bl2, bb⟩
      have hk : k < xs.length := (List.getElem?_eq_some_iff.mp hx).1
      obtain ⟨e, he⟩ : ∃ e, bs[k]? = some e := ⟨_, List.getElem?_eq_getElem (by omega)⟩
      obtain ⟨x', hx', hde⟩ := dpAll_get hbs (i := k) (d := barD e) (by rw [List.getElem?_map, he]; rfl)
      cases Option.some.inj (hx.symm.trans hx')
      have v2l : vs2.length = bs2.length := by rw [dpAll_len hd2, List.length_map]
      obtain ⟨gb, rfl, hgb⟩ := tupD_inv (s := [(e.1 : Int), (e.2 : Int)]) (dp_same (u7.trans sG) hde)
      walk_at "ct"
      refine ⟨rfl, ?_⟩
      walk_at "ct"
      refine w_revT ?_
      walk_at "ct"
      refine ⟨gb, _, rfl, hgb, fun p np => ?_⟩
      have u8 : Same G (upd G p (.tup [.int (e.2 : Int), .int (e.1 : Int)])) := same_upd np
      have hp : (upd G p (.tup [.int (e.2 : Int), .int (e.1 : Int)])) p = some (.tup [.int (e.2 : Int), .int (e.1 : Int)]) := upd_same
      rw [show ([(e.1 : Int), (e.2 : Int)].map V.int).reverse = [V.int (e.2 : Int), V.int (e.1 : Int)] from rfl]
      generalize upd G p _ = G2 at *
      have hG2 := u8 _ _ hG
      refine ⟨_, hG2, small1000 (by omega), same_new (sG.trans u8) hD2, vs2 ++ [.ref p], bs2 ++ [(e.2, e.1)], upd_same, dpAll_wr hG2 (barD_snoc (dpAll_same u8 hd2) (.of hp)) (barD_nl _), by rw [List.length_append, bl2]; rfl, fun z hz => ?_⟩
      rcases List.mem_append.mp hz with h | h
      · exact bb z h
      · rw [List.mem_singleton.mp h]
        have := md.bs e (bsm e (List.mem_of_getElem? he))
        exact ⟨this.2, this.1⟩
    rintro D2 nD2 H8 ⟨u8, vs2, bs2, hD2, hd2, bl2, bb⟩
    have v2l : vs2.length = bs2.length := by rw [dpAll_len hd2, List.length_map]
    walk_at "cq"
    refine ⟨D2, 3, vs2, rfl, rfl, hD2, by decide, by decide, Nat.le_trans (show vs2.length * 3 ≤ 1000 by omega) (by decide), fun l4 nl4 => ?_⟩
    rw [show (List.replicate (Int.toNat 3) vs2).flatten = vs2 ++ (vs2 ++ vs2) by simp [show Int.toNat 3 = 3 from rfl, List.replicate]]
    have u9 : Same H8 (upd H8 l4 (.lst (vs2 ++ (vs2 ++ vs2)))) := same_upd nl4
    have hl4 : (upd H8 l4 (.lst (vs2 ++ (vs2 ++ vs2)))) l4 = some (.lst (vs2 ++ (vs2 ++ vs2))) := upd_same
    generalize upd H8 l4 _ = H9 at *
    have s69 := (u7.trans u8).trans u9
    have v3l : vs3.length = 17 := by rw [dpAll_len d6]; rfl
    refine ⟨l3, l4, vs3, vs2 ++ (vs2 ++ vs2), rfl, rfl, s69 _ _ h6, hl4, Nat.le_trans (show vs3.length + (vs2 ++ (vs2 ++ vs2)).length ≤ 1000 by rw [List.length_append, List.length_append]; omega) (by decide), fun l5 nl5 => ?_⟩
    have uA : Same H9 (upd H9 l5 (.lst (vs3 ++ (vs2 ++ (vs2 ++ vs2))))) := same_upd nl5
    have hl5 : (upd H9 l5 (.lst (vs3 ++ (vs2 ++ (vs2 ++ vs2))))) l5 = some (.lst (vs3 ++ (vs2 ++ (vs2 ++ vs2)))) := upd_same
    generalize upd H9 l5 _ = HA at *
    obtain ⟨vs5, hv5⟩ : ∃ vs5, vs5 = vs3 ++ (vs2 ++ (vs2 ++ vs2)) := ⟨_, rfl⟩
    obtain ⟨ds5, d5', b5⟩ : ∃ ds, DpAll K HA vs5 ds ∧ BnA ds 1 109 := by
      obtain ⟨_, _, ds6, e6, h6', d6', b6⟩ := L6.same (s69.trans uA)
      have b2 := BnA.bars (m := 3) (bs := bs2) (fun x hx => by have := bb x hx; omega) (by omega)
      have d2 := dpAll_same (u9.trans uA) hd2
      cases e6
      rw [(s69.trans uA) _ _ h6] at h6'
      cases h6'
      refine ⟨_, ?_, b6.app (b2.app (b2.app b2))⟩
      rw [hv5]
      exact dpAll_app d6' (dpAll_app d2 (dpAll_app d2 d2))
    rw [← hv5] at hl5
    have v5l : 17 ≤ vs5.length := by rw [hv5, List.length_append]; omega
    have sA : Same H3 HA := s36.trans (s69.trans uA)
    have drA := st3.same sA
    have hmA := sA _ _ hm3
    have hblA := sA _ _ hbl3
    have huA := dpAll_same sA hu3
    have MA := M3.same sA
    have BA := B3.same sA
    clear s36 s69 u7 u8 u9 uA L6 hsl hD2 hd2 h4 d4 h5 d5 h6 d6 s4 s5 s6 nsl nD2 nl4 nl5 hl4 hv5
    walk_at "ct"
    refine w_ite (fun _ => ?_) (fun _ => ?_)
    · walk_at "ct"
      refine ⟨D, c + 3, rfl, drA.2, by omega, fun x4 _ _ => ?_⟩
      have stB := Dr.step drA.2 (c + 4)
      have drB := drA.trans stB
      have hl6 := stB.at drA.2 hl5
      have d6 := stB.all drA.2 d5'
      generalize upd HA D _ = HB at *
      have MB : TB K HB (.ref m) 1 320 := .ints (.of (drB.at hD hm)) (fun z hz => by have := md.mr z hz; omega) md.ml
      have BB : LsB K HB (.ref bl) 1 960 := ⟨bl, us, _, rfl, drB.at hD hbl, drB.all hD hu, BnA.bars (fun x hx => by have := md.bs x hx; omega) (by omega)⟩
      have LB1 : LsB K HB (.ref l5) 1 109 := ⟨l5, vs5, ds5, rfl, hl6, d6, b5⟩
      walk_at "ct"
      refine ⟨l5, vs5, rfl, .inl (.of hl6), ?_⟩
      refine w_mod (by omega) fun r r0 r1 => ?_
      walk_at "ct"
      refine w_slLB LB1 fun v1 G1 u1 h1 => ?_
      walk_at "ct"
      refine w_slLB h1 fun v2 G2 u2 h2 => ?_
      walk_at "ct"
      refine w_slLB (BB.same (u1.trans u2)) fun v3 G3 u3 h3 => ?_
      walk_at "ct"
      refine w_catLB h3 (h2.same u3) (by decide) fun v4 G4 u4 h4 => ?_
      walk_at "ct"
      refine w_slLB (BB.same ((u1.trans u2).trans (u3.trans u4))) fun v5 G5 u5 h5 => ?_
      refine w_catLB (h4.same u5) h5 (by decide) fun v6 G6 u6 h6 => ?_
      have s6 := ((u1.trans u2).trans (u3.trans u4)).trans (u5.trans u6)
      walk_at "ct"
      refine ⟨len2 rfl, fun p2 np2 => ?_⟩
      walk_at "ct"
      exact fin G6 _ p2 _ _ _ (drB.same s6) (by omega) ((MB.same s6).vb.mono (by decide) (by decide)) (h6.vb.mono (by decide) (by decide)) (by omega) np2
    with_reducible refine w_next ?_
    with_reducible refine w_join (fun σ G => σ = [some (.ref D), some va, some (.ref b), some (.ref g), some (.str "wheel"), some (.int (t : Int)), some (.ref m), some (.ref bl), some (.int way), some (.int at_), some (.int nb), some (.ref l5), none, none, none, none, none] ∧ Same HA G) ?_ ?_
    · rintro σ J ⟨rfl, sJ⟩
      have sJ3 := sA.trans sJ
      have drJ := drA.same sJ
      have MJ := MA.same sJ
      have BJ := BA.same sJ
      have hmJ := sJ _ _ hmA
      have hblJ := sJ _ _ hblA
      walk_at "ct"
      refine w_ite (fun _ => ?_) (fun _ => ?_)
      · walk_at "ct"
        refine w_IT (.of hmJ) ?_
        refine lb_tup (ms.map V.int) (fun D2 k G => Same J G ∧ ∃ (ns : List V) (ds : List PyData), G D2 = some (.lst ns) ∧ (∀ G', DpAll K G' ns ds) ∧ ns.length = k ∧ BnA ds 1 k) (fun D2 hD2 => ⟨same_upd hD2, [], [], upd_same, fun _ => .nil, rfl, .nil⟩) (fun D2 hD2 k G _ h => .of (h.1 _ _ hmJ)) ?_ ?_
        · rintro D2 hD2 k x G hx ⟨sG, ns, ds, hG, hds, nl, bds⟩
          have hk : k < ms.length := by have := (List.getElem?_eq_some_iff.mp hx).1; rw [List.length_map] at this; exact this
          obtain ⟨z, hz, rfl⟩ : ∃ z : Int, ms[k]? = some z ∧ x = .int z := by
            rw [List.getElem?_map] at hx
            cases e : ms[k]? with
            | none => rw [e] at hx; cases hx
            | some z => rw [e] at hx; exact ⟨z, rfl, (Option.some.inj hx).symm⟩
          have ml := md.ml
          have zb := md.mr z (List.mem_of_getElem? hz)
          walk_at "ct"
          refine ⟨rfl, ?_⟩
          walk_at "ct"
          refine ⟨len2 rfl, fun n1 nn1 => ?_⟩
          have u1 : Same G (upd G n1 (.lst [.int z, .bl (decide (z = 1))])) := same_upd nn1
          have hn1 : (upd G n1 (.lst [.int z, .bl (decide (z = 1))])) n1 = some (.lst [.int z, .bl (decide (z = 1))]) := upd_same
          generalize upd G n1 _ = G1 at *
          walk_at "ct"
          refine .inr ⟨_, rfl, ?_⟩
          refine w_someB hn1 (by split <;> decide) (show _ < ((2 : Nat) : Int) from by split <;> decide) fun v hv => ?_
          have hG1 := u1 _ _ hG
          obtain ⟨d, dv, db⟩ : ∃ d, (∀ G', Dp K G' v d) ∧ Bn d 1 0 := by
            rcases List.mem_cons.mp hv with rfl | hv
            · exact ⟨_, fun _ => .int z, Bn.int (by omega)⟩
            · rw [List.mem_singleton.mp hv]
              exact ⟨_, fun _ => .bl _, Bn.bl⟩
          refine ⟨_, hG1, small1000 (by omega), same_new (sG.trans u1) hD2, ns ++ [v], ds ++ [d], upd_same, fun G' => dpAll_app (hds G') (.cons (dv G') .nil), by rw [List.length_append, nl]; rfl, (bds.app (BnA.cons db .nil0)).mono (Nat.le_refl _) (by omega)⟩
        rintro D2 nD2 J1 ⟨u1, ns, ds, hn, hds, nl, bds⟩
        rw [List.length_map] at nl bds
        have ml := md.ml
        walk_at "ct"
        refine ⟨D2, ns, rfl, .inl ⟨.of hn, fun v nv => ?_⟩⟩
        have u2 : Same J1 (upd J1 v (.tup ns)) := same_upd nv
        have hv : TB K (upd J1 v (.tup ns)) (.ref v) 1 320 := ⟨v, ns, ds, rfl, .of upd_same, hds _, bds.mono (Nat.le_refl _) ml⟩
        generalize upd J1 v _ = J2 at *
        have s6 := u1.trans u2
        walk_at "ct"
        refine ⟨len2 rfl, fun p2 np2 => ?_⟩
        walk_at "ct"
        exact fin J2 _ p2 _ _ _ (drJ.same s6) (by omega) (hv.vb.mono (by decide) (by decide)) (BV _ (sJ3.trans s6)) (by omega) np2
      walk_at "ct"
      have bnM : ∀ z ∈ ms, z.natAbs < 2 ^ 200 := fun z hz => by have := md.mr z hz; omega
      have ml := md.ml
      refine ⟨bl, us, rfl, .inl ⟨.of hblJ, fun a1 na1 => ?_⟩⟩
      have u1 : Same J (upd J a1 (.tup us)) := same_upd na1
      have h1 : TB K (upd J a1 (.tup us)) (.ref a1) 1 960 := ⟨a1, us, _, rfl, .of upd_same, dpAll_same (sJ.trans u1) huA, BnA.bars (fun x hx => by have := md.bs x hx; omega) (by omega)⟩
      generalize upd J a1 _ = J1 at *
      walk_at "ct"
      refine ⟨len2 rfl, fun p1 np1 => ?_⟩
      have u2 : Same J1 (upd J1 p1 (.tup [.ref m, .ref a1])) := same_upd np1
      have P1 : TB K (upd J1 p1 (.tup [.ref m, .ref a1])) (.ref p1) 2 1300 := (TB.two (.of upd_same) ((MJ.same (u1.trans u2)).vb) ((h1.same u2).vb)).mono (by decide) (by decide)
      generalize upd J1 p1 _ = J2 at *
      have s2 := u1.trans u2
      walk_at "ct"
      refine ⟨m, _, rfl, .inr (.of (s2 _ _ hmJ)), fun a2 na2 => ?_⟩
      have u3 : Same J2 (upd J2 a2 (.lst (ms.map V.int))) := same_upd na2
      have h3 : LsB K (upd J2 a2 (.lst (ms.map V.int))) (.ref a2) 1 320 := .ints upd_same bnM ml
      generalize upd J2 a2 _ = J3 at *
      walk_at "ct"
      refine ⟨len2 rfl, fun p2 np2 => ?_⟩
      have u4 : Same J3 (upd J3 p2 (.tup [.ref a2, .ref bl])) := same_upd np2
      have P2 : TB K (upd J3 p2 (.tup [.ref a2, .ref bl])) (.ref p2) 2 1300 := (TB.two (.of upd_same) ((h3.same u4).vb) ((BJ.same (s2.trans (u3.trans u4))).vb)).mono (by decide) (by decide)
      generalize upd J3 p2 _ = J4 at *
      have s4 := s2.trans (u3.trans u4)
      walk_at "ct"
      refine ⟨len2 rfl, fun n1 nn1 => ?_⟩
      have u5 : Same J4 (upd J4 n1 (.tup [.int 0, .int 1])) := same_upd nn1
      have hn1 : (upd J4 n1 (.tup [.int 0, .int 1])) n1 = some (.tup [.int 0, .int 1]) := upd_same
      generalize upd J4 n1 _ = J5 at *
      walk_at "ct"
      refine ⟨len2 rfl, fun n2 nn2 => ?_⟩
      have u6 : Same J5 (upd J5 n2 (.lst [.ref n1])) := same_upd nn2
      have hn2 : (upd J5 n2 (.lst [.ref n1])) n2 = some (.lst [.ref n1]) := upd_same
      generalize upd J5 n2 _ = J6 at *
      have h6 : LsB K J6 (.ref n2) 1 3 := LsB.one (n := 1) (m := 2) hn2 ((TB.two (n := 0) (m := 0) (k := 0) (.of (u6 _ _ hn1)) (.int (by decide)) (.int (by decide))).vb.mono (by decide) (by decide))
      refine w_catLB (BJ.same (s4.trans (u5.trans u6))) h6 (by decide) fun v3 J7 u7 h7 => ?_
      have s7 := s4.trans ((u5.trans u6).trans u7)
      walk_at "ct"
      refine ⟨len2 rfl, fun p3 np3 => ?_⟩
      have u8 : Same J7 (upd J7 p3 (.tup [.ref m, v3])) := same_upd np3
      have P3 : TB K (upd J7 p3 (.tup [.ref m, v3])) (.ref p3) 2 1300 := (TB.two (.of upd_same) ((MJ.same (s7.trans u8)).vb) ((h7.same u8).vb)).mono (by decide) (by decide)
      generalize upd J7 p3 _ = J8 at *
      have s8 := s7.trans u8
      walk_at "ct"
      refine w_slLB (BJ.same s8) fun v4 J9 u9 h9 => ?_
      walk_at "ct"
      refine ⟨len2 rfl, fun p4 np4 => ?_⟩
      have uA : Same J9 (upd J9 p4 (.tup [.ref m, v4])) := same_upd np4
      have P4 : TB K (upd J9 p4 (.tup [.ref m, v4])) (.ref p4) 2 1300 := (TB.two (.of upd_same) ((MJ.same (s8.trans (u9.trans uA))).vb) ((h9.same uA).vb)).mono (by decide) (by decide)
      generalize upd J9 p4 _ = JA at *
      have sA2 := s8.trans (u9.trans uA)
      walk_at "ct"
      refine ⟨len2 rfl, fun l6 nl6 => ?_⟩
      have uB : Same JA (upd JA l6 (.lst [.ref p1, .ref p2, .ref p3, .ref p4])) := same_upd nl6
      have hl6 : (upd JA l6 (.lst [.ref p1, .ref p2, .ref p3, .ref p4])) l6 = some (.lst [.ref p1, .ref p2, .ref p3, .ref p4]) := upd_same
      generalize upd JA l6 _ = JB at *
      have sB := sA2.trans uB
      have Q1 := P1.same ((u3.trans u4).trans (((u5.trans u6).trans u7).trans (u8.trans ((u9.trans uA).trans uB))))
      have Q2 := P2.same (((u5.trans u6).trans u7).trans (u8.trans ((u9.trans uA).trans uB)))
      have Q3 := P3.same ((u9.trans uA).trans uB)
      have Q4 := P4.same uB
      walk_at "ct"
      refine w_slTI (.of (sB _ _ hmJ)) fun a3 JC ns uC ha3 nl3 nm3 => ?_
      refine w_catA (.of ((sB.trans uC) _ _ hmJ)) ha3 (by rw [List.length_map, List.length_map]; omega) fun a4 JD uD ha4 => ?_
      rw [← List.map_append] at ha4
      walk_at "ct"
      refine ⟨a4, ms ++ ns, rfl, ha4, fun ns' a5 perm na5 => ?_⟩
      have uE : Same JD (upd JD a5 (.lst (ns'.map V.int))) := same_upd na5
      have ha5 : (upd JD a5 (.lst (ns'.map V.int))) a5 = some (.lst (ns'.map V.int)) := upd_same
      generalize upd JD a5 _ = JE at *
      walk_at "ct"
      refine ⟨a5, ns'.map V.int, rfl, .inl ⟨.of ha5, fun a6 na6 => ?_⟩⟩
      have uF : Same JE (upd JE a6 (.tup (ns'.map V.int))) := same_upd na6
      have hF : TB K (upd JE a6 (.tup (ns'.map V.int))) (.ref a6) 1 640 := .ints (.of upd_same) (fun z hz => by
        rcases List.mem_append.mp (perm.mem_iff.mp hz) with h | h
        · exact bnM z h
        · exact bnM z (nm3 z h)) (by rw [perm.length_eq, List.length_append]; omega)
      generalize upd JE a6 _ = JF at *
      have sF := sB.trans ((uC.trans uD).trans (uE.trans uF))
      walk_at "ct"
      refine ⟨len2 rfl, fun p5 np5 => ?_⟩
      have uG : Same JF (upd JF p5 (.tup [.ref a6, .ref bl])) := same_upd np5
      have P5 : TB K (upd JF p5 (.tup [.ref a6, .ref bl])) (.ref p5) 2 1700 := (TB.two (.of upd_same) ((hF.same uG).vb) ((BJ.same (sF.trans uG)).vb)).mono (by decide) (by decide)
      generalize upd JF p5 _ = JG at *
      walk_at "ct"
      refine ⟨len2 rfl, fun n3 nn3 => ?_⟩
      have uH : Same JG (upd JG n3 (.tup [.int (0 - 1)])) := same_upd nn3
      have hH : TB K (upd JG n3 (.tup [.int (0 - 1)])) (.ref n3) 1 1 := TB.one (n := 1) (m := 0) (.of upd_same) (.int (by decide))
      generalize upd JG n3 _ = JH at *
      have sH := sF.trans (uG.trans uH)
      walk_at "ct"
      refine w_catTB hH (MJ.same sH) (by decide) fun v6 JI uI hI => ?_
      walk_at "ct"
      refine ⟨len2 rfl, fun p6 np6 => ?_⟩
      have uJ : Same JI (upd JI p6 (.tup [v6, .ref bl])) := same_upd np6
      have P6 : TB K (upd JI p6 (.tup [v6, .ref bl])) (.ref p6) 2 1700 := (TB.two (.of upd_same) ((hI.same uJ).vb) ((BJ.same (sH.trans (uI.trans uJ))).vb)).mono (by decide) (by decide)
      generalize upd JI p6 _ = JJ at *
      have sJJ := sH.trans (uI.trans uJ)
      walk_at "ct"
      refine ⟨len2 rfl, fun l7 nl7 => ?_⟩
      have uK : Same JJ (upd JJ l7 (.lst [.ref p5, .ref p6])) := same_upd nl7
      have hl7 : (upd JJ l7 (.lst [.ref p5, .ref p6])) l7 = some (.lst [.ref p5, .ref p6]) := upd_same
      generalize upd JJ l7 _ = JK at *
      have fromB := ((uC.trans uD).trans (uE.trans uF)).trans ((uG.trans uH).trans ((uI.trans uJ).trans uK))
      refine ⟨l6, l7, _, _, rfl, rfl, fromB _ _ hl6, hl7, show 4 + 2 ≤ sizeLine by decide, fun l8 nl8 => ?_⟩
      have uL : Same JK (upd JK l8 (.lst [.ref p1, .ref p2, .ref p3, .ref p4, .ref p5, .ref p6])) := same_upd nl8
      have hl8 : (upd JK l8 (.lst [.ref p1, .ref p2, .ref p3, .ref p4, .ref p5, .ref p6])) l8 = some (.lst [.ref p1, .ref p2, .ref p3, .ref p4, .ref p5, .ref p6]) := upd_same
      rw [show [V.ref p1, .ref p2, .ref p3, .ref p4] ++ [.ref p5, .ref p6] = [V.ref p1, .ref p2, .ref p3, .ref p4, .ref p5, .ref p6] from rfl]
      generalize upd JK l8 _ = JL at *
      have sL := sJJ.trans (uK.trans uL)
      have all6 : ∀ v ∈ [V.ref p1, .ref p2, .ref p3, .ref p4, .ref p5, .ref p6], TB K JL v 2 1700 := fun v hv => by
        simp only [List.mem_cons, List.not_mem_nil, or_false] at hv
        rcases hv with rfl | rfl | rfl | rfl | rfl | rfl
        · exact (Q1.same (fromB.trans uL)).mono (by decide) (by decide)
        · exact (Q2.same (fromB.trans uL)).mono (by decide) (by decide)
        · exact (Q3.same (fromB.trans uL)).mono (by decide) (by decide)
        · exact (Q4.same (fromB.trans uL)).mono (by decide) (by decide)
        · exact P5.same (uH.trans ((uI.trans uJ).trans (uK.trans uL)))
        · exact P6.same (uK.trans uL)
      walk_at "ct"
      refine ⟨len2 rfl, fun n4 nn4 => ?_⟩
      have uM : Same JL (upd JL n4 (.tup [.str "wheel", .int (t : Int)])) := same_upd nn4
      have hM : TB K (upd JL n4 (.tup [.str "wheel", .int (t : Int)])) (.ref n4) 2 7 := TB.two (m := 5) (k := 0) (.of upd_same) (.str (by decide +kernel)) (.int (by omega))
      generalize upd JL n4 _ = JM at *
      walk_at "ct"
      refine w_mod (by decide) fun r r0 r1 => ?_
      refine w_someB (uM _ _ hl8) r0 (by show r < ((6 : Nat) : Int); omega) fun v hv => ?_
      refine w_catTB' hM ((all6 v hv).same uM) fun u JN uN hN => ?_
      walk_at "ct"
      obtain ⟨d, hd, hb⟩ := hN.vb
      exact q u d _ _ (drJ.same (sL.trans (uM.trans uN))) (by omega) hd (hb.mono (by decide) (by decide))
    · intro N hN
      walk_at "ct"
      refine w_ite (fun w8 => ?_) (fun w8 => ?_)
      · walk_at "ct"
        refine w_mod (by decide) fun od od0 od1 => ?_
        walk_at "ct"
        refine w_ite (fun _ => ?_) (fun _ => ?_)
        · walk_at "ct"
          refine ⟨len2 rfl, fun e0 ne0 => ?_⟩
          have v1 : Same HA (upd HA e0 (.tup [])) := same_upd ne0
          have he0 : (upd HA e0 (.tup [])) e0 = some (.tup []) := upd_same
          generalize upd HA e0 _ = I1 at *
          refine ⟨.tuple (ms.map PyData.int), .tuple [], .tup (.of (v1 _ _ hmA)) (dpAll_ints ms), .tup (.of he0) .nil, shaped_of (lay_tup (n := 0) (lay_ints ms 0)) (by decide), shaped_of (lay_tup (n := 0) (lay_ints [] 0)) (by decide), ?_⟩
          walk_at "ct"
          cases me : ms with
          | nil =>
            rw [show (!(PyData.tuple (List.map PyData.int [])).eqv (PyData.tuple [])) = false from rfl]
            walk_at "ct"
            exact hN _ _ ⟨rfl, v1⟩
          | cons a0 r0 =>
            rw [show (!(PyData.tuple (List.map PyData.int (a0 :: r0))).eqv (PyData.tuple [])) = true from rfl]
            have mpos : 0 < ms.length := by rw [me]; exact Nat.succ_pos _
            have ml := md.ml
            walk_at "ct"
            refine w_rIv _ (by trivial) rfl ?_
            walk_at "ct"
            refine ⟨m, _, rfl, .inr (.of (v1 _ _ hmA)), ?_⟩
            walk_at "ct"
            refine w_mod (by rw [List.length_map]; omega) fun k k0 k1 => ?_
            rw [List.length_map] at k1
            obtain ⟨kn, rfl⟩ : ∃ kn : Nat, k = kn := ⟨k.toNat, by omega⟩
            obtain ⟨z, hz⟩ : ∃ z, ms[kn]? = some z := ⟨_, List.getElem?_eq_getElem (by omega)⟩
            have zb := md.mr z (List.mem_of_getElem? hz)
            have az : atI (ms.map V.int) (kn : Int) = some (.int z) := at_of (j := kn) rfl (by rw [List.getElem?_map, hz]; rfl)
            walk_at "ct"
            refine w_slTB (MA.same v1) fun x1 I2 v2 h2 => ?_
            have hm2 : SqT K I2 m (ms.map V.int) := .of ((v1.trans v2) _ _ hmA)
            walk_at "ct"
            refine w_ixT hm2 az ?_
            walk_at "ct"
            refine w_ixT hm2 az ?_
            walk_at "ct"
            refine ⟨len2 rfl, fun n1 nn1 => ?_⟩
            have v3 : Same I2 (upd I2 n1 (.lst [.int z, .bl (decide (z = 1))])) := same_upd nn1
            have hn1 : (upd I2 n1 (.lst [.int z, .bl (decide (z = 1))])) n1 = some (.lst [.int z, .bl (decide (z = 1))]) := upd_same
            generalize upd I2 n1 _ = I3 at *
            walk_at "ct"
            refine w_ixT (Same.tup v3 hm2) az ?_
            walk_at "ct"
            refine ⟨len2 rfl, fun n2 nn2 => ?_⟩
            have v4 : Same I3 (upd I3 n2 (.lst [.int 0, .int 1])) := same_upd nn2
            have hn2 : (upd I3 n2 (.lst [.int 0, .int 1])) n2 = some (.lst [.int 0, .int 1]) := upd_same
            generalize upd I3 n2 _ = I4 at *
            refine w_inL (ns := [0, 1]) (.of hn2) ?_
            walk_at "ct"
            refine .inr ⟨_, rfl, ?_⟩
            refine w_someB (v4 _ _ hn1) (by split <;> decide) (show _ < ((2 : Nat) : Int) from by split <;> decide) fun v hv => ?_
            have vb : ∀ G, VB K G v 1 0 := fun G => by
              rcases List.mem_cons.mp hv with rfl | hv
              · exact .int (by omega)
              · rw [List.mem_singleton.mp hv]
                exact .bl
            walk_at "ct"
            refine ⟨len2 rfl, fun n3 nn3 => ?_⟩
            have v5 : Same I4 (upd I4 n3 (.tup [v])) := same_upd nn3
            have hn3 : (upd I4 n3 (.tup [v])) n3 = some (.tup [v]) := upd_same
            generalize upd I4 n3 _ = I5 at *
            refine w_catTB (h2.same ((v3.trans v4).trans v5)) (TB.one (n := 1) (m := 0) (.of hn3) (vb _)) (by decide) fun x2 I6 v6 h6 => ?_
            have s6 := ((v1.trans v2).trans (v3.trans v4)).trans (v5.trans v6)
            walk_at "ct"
            refine w_slTB (MA.same s6) fun x3 I7 v7 h7 => ?_
            refine w_catTB (h6.same v7) h7 (by decide) fun x4 I8 v8 h8 => ?_
            have s8 := s6.trans (v7.trans v8)
            walk_at "ct"
            refine ⟨len2 rfl, fun p2 np2 => ?_⟩
            walk_at "ct"
            exact fin2 I8 _ p2 _ _ _ (drA.same s8) (by omega) (h8.vb.mono (by decide) (by decide)) (BV2 _ (sA.trans s8)) (by omega) np2
        · walk_at "ct"
          exact hN _ _ ⟨rfl, Same.refl _⟩
      · walk_at "ct"
        exact hN _ _ ⟨rfl, Same.refl _⟩
abbrev S__law_bent : Stmt := topS 64
theorem sc__law_bent : FnScope ["_law_draws_here", "_law_ways", "_law_shows", "_law_thing", "_law_way", "_law_number", "_law_other"] ["_law_draws_here", "_law_ways", "_law_shows", "_law_thing"] (defScope S__law_bent) := ⟨rfl, rfl, rfl, by decide +kernel, rfl, by decide +kernel, by decide +kernel⟩
def sp__law_bent (K : PySem.W.Frag) : Sp := fun vs H Q _ => ∃ (D b g : Addr) (va : V) (c : Nat) (ws : List V) (R : PyData → Prop), vs = [.ref D, va, .ref b, .ref g] ∧ H D = some (DrO D c) ∧ c ≤ 880000 ∧ H b = some (.lst ws) ∧ ws.length ≤ 310 ∧ MdT K R H g ∧ ∀ v d c' H', Dr D c' H H' → c' ≤ c + 10 → Dp K H' v d → Bn d 8 2500 → Q v H'
theorem ok__law_bent {f : Addr} {fd : FuncData} {f__law_bent_wheel : Addr} {fd__law_bent_wheel : FuncData} {f__law_next : Addr} {fd__law_next : FuncData} {f__law_odd : Addr} {fd__law_odd : FuncData} (F : Fun K "_law_bent" "_law_bent" S__law_bent f fd)
    (F__law_bent_wheel : Fun K "_law_bent_wheel" "_law_bent_wheel" S__law_bent_wheel f__law_bent_wheel fd__law_bent_wheel) (b__law_bent_wheel : Binds K fd__law_bent_wheel ["_law_draws_here", "_law_ways", "_law_shows", "_law_thing"] []) (g__law_bent_wheel : mg "_law_bent_wheel" = some (.ref f__law_bent_wheel)) (G__law_bent_wheel : FnOk P w K mg base CX0 2 f__law_bent_wheel fd__law_bent_wheel ["_law_draws_here", "_law_ways", "_law_shows", "_law_thing"] (sp__law_bent_wheel K))
    (F__law_next : Fun K "_law_next" "_law_next" S__law_next f__law_next fd__law_next) (b__law_next : Binds K fd__law_next ["_law_draws_here"] []) (g__law_next : mg "_law_next" = some (.ref f__law_next)) (G__law_next : FnOk P w K mg base CX0 1 f__law_next fd__law_next ["_law_draws_here"] (sp__law_next K))
    (F__law_odd : Fun K "_law_odd" "_law_odd" S__law_odd f__law_odd fd__law_odd) (b__law_odd : Binds K fd__law_odd ["_law_draws_here"] []) (g__law_odd : mg "_law_odd" = some (.ref f__law_odd)) (G__law_odd : FnOk P w K mg base CX0 2 f__law_odd fd__law_odd ["_law_draws_here"] (sp__law_odd K)) (m_len : mg "len" = none) (m_list : mg "list" = none) :
    FnOk P w K mg base CX0 3 f fd ["_law_draws_here", "_law_ways", "_law_shows", "_law_thing"] (sp__law_bent K) := by
  refine F.ok sc__law_bent (fun vs H Q E h => ?_) (fun cdv A outer s H vs Q E hr h => ?_)
  ·
    obtain ⟨D, b, g, va, c, ws, R, rfl, _⟩ := h
    rfl
  ·
    obtain ⟨D, b, g, va, c, ws, R, rfl, hD, hc, hb, wl, md, q⟩ := h
    refine ⟨_, (pss_cons (ps_set (i := 4) sc__law_bent.nd rfl (.inl rfl) (pe_op op_mod (pe_call G__law_next (hr.mono (by decide)) (by rfl) g__law_next F__law_next.kp b__law_next .nil pass0 (pa_cons (pv 0) pa_nil)) pe_int))
      (pss_cons (ps_if (pt_cmpR op_eq (pv 4) pe_int (nomark _)) (pss_one (ps_ret (pe_call G__law_odd (hr.mono (by decide)) (by rfl) g__law_odd F__law_odd.kp b__law_odd .nil pass0 (pa_cons (pv 0) pa_nil)))) pss_nil)
      (pss_cons (ps_if (pt_cmpR op_eq (pv 4) pe_int (nomark _)) (pss_one (ps_ret (pe_tup (pa_cons pe_str (pa_cons (pe_op op_sub (pe_op op_mod (pe_call G__law_next (hr.mono (by decide)) (by rfl) g__law_next F__law_next.kp b__law_next .nil pass0 (pa_cons (pv 0) pa_nil)) (pe_op op_add (pe_callB call_len_seq (by rfl) m_len (by decide +kernel) (pa_cons (pv 2) pa_nil)) pe_int)) pe_int) (pa_cons (pe_op op_mod (pe_call G__law_next (hr.mono (by decide)) (by rfl) g__law_next F__law_next.kp b__law_next .nil pass0 (pa_cons (pv 0) pa_nil)) (pe_op op_add (pe_callB call_len_seq (by rfl) m_len (by decide +kernel) (pa_cons (pv 2) pa_nil)) pe_int)) pa_nil)))))) pss_nil)
      (pss_cons (ps_if (pt_cmpR op_eq (pv 4) pe_int (nomark _)) (pss_cons (ps_set (i := 5) sc__law_bent.nd rfl (.inl rfl) (pe_op op_mod (pe_call G__law_next (hr.mono (by decide)) (by rfl) g__law_next F__law_next.kp b__law_next .nil pass0 (pa_cons (pv 0) pa_nil)) (pe_op op_add (pe_callB call_len_seq (by rfl) m_len (by decide +kernel) (pa_cons (pv 2) pa_nil)) pe_int)))
      (pss_one (ps_ret (pe_tup (pa_cons pe_str (pa_cons (pv 5) (pa_cons (pv 5) pa_nil))))))) pss_nil)
      (pss_cons (ps_if (pt_cmpR op_eq (pv 4) pe_int (nomark _)) (pss_cons (ps_set (i := 6) sc__law_bent.nd rfl (.inl rfl) (pe_op (r := rCatA K) op_catA (pe_tup (pa_cons (pe_ix (r := rIxL K) ix_list (pe_lst (pa_cons pe_str (pa_cons pe_str (pa_cons pe_str (pa_cons pe_str (pa_cons pe_str pa_nil)))))) (pe_op op_mod (pe_call G__law_next (hr.mono (by decide)) (by rfl) g__law_next F__law_next.kp b__law_next .nil pass0 (pa_cons (pv 0) pa_nil)) pe_int) (fun _ _ => rfl)) pa_nil)) (pe_slice (r := rSlA K) sl_tupA (pv 3) (po_some pe_int) po_none)))
      (pss_one (ps_ret (pe_ix (r := rIxL K) ix_list (pe_lst (pa_cons (pe_callTy call_list_of (by rfl) m_list (by decide +kernel) (pa_cons (pv 3) pa_nil)) (pa_cons (pe_op (r := rCatA K) op_catA (pv 3) (pe_tup (pa_cons pe_int pa_nil))) (pa_cons (pe_slice (r := rSlA K) sl_tupA (pv 3) po_none (po_some (pe_un un_neg pe_int))) (pa_cons (pe_op (r := rCatA K) op_catA (pe_tup (pa_cons pe_str pa_nil)) (pe_slice (r := rSlA K) sl_tupA (pv 3) (po_some pe_int) (po_some pe_int))) (pa_cons (pv 6) pa_nil)))))) (pe_op op_mod (pe_call G__law_next (hr.mono (by decide)) (by rfl) g__law_next F__law_next.kp b__law_next .nil pass0 (pa_cons (pv 0) pa_nil)) pe_int) (fun _ _ => rfl))))) pss_nil)
      (pss_cons (ps_if (pt_cmpR op_eq (pe_ix (r := rIxT K) ix_tup (pv 3) pe_int (fun _ _ => rfl)) pe_str (nomark _)) (pss_one (ps_ret (pe_tup (pa_cons pe_str (pa_cons (pe_ix (r := rIxT K) ix_tup (pv 3) pe_int (fun _ _ => rfl)) (pa_cons (pe_op op_add (pe_ix (r := rIxT K) ix_tup (pv 3) pe_int (fun _ _ => rfl)) (pe_op op_mod (pe_call G__law_next (hr.mono (by decide)) (by rfl) g__law_next F__law_next.kp b__law_next .nil pass0 (pa_cons (pv 0) pa_nil)) pe_int)) pa_nil)))))) pss_nil)
      (pss_one (ps_ret (pe_call G__law_bent_wheel (hr.mono (by decide)) (by rfl) g__law_bent_wheel F__law_bent_wheel.kp b__law_bent_wheel .nil pass0 (pa_cons (pv 0) (pa_cons (pv 1) (pa_cons (pv 2) (pa_cons (pv 3) pa_nil))))))))))))), ?_⟩
    refine w_st (σ' := [some (.ref D), some va, some (.ref b), some (.ref g), none, none, none]) rfl ?_
    walk_at "ct"
    refine ⟨D, c, rfl, hD, by omega, fun x1 _ _ => ?_⟩
    have dr1 := Dr.step hD (c + 1)
    generalize upd H D _ = H1 at *
    walk_at "ct"
    refine w_mod (by decide) fun way w0 w1 => ?_
    have hb1 := dr1.at hD hb
    have md1 := md.dr dr1 hD
    walk_at "ct"
    refine w_ite (fun _ => ?_) (fun _ => ?_)
    · walk_at "ct"
      refine ⟨D, c + 1, rfl, dr1.2, by omega, fun v d H2 dr2 hv bn => ?_⟩
      exact q v d _ _ (dr1.trans dr2) (by omega) hv bn
    walk_at "ct"
    refine w_ite (fun _ => ?_) (fun _ => ?_)
    · walk_at "ct"
      refine ⟨D, c + 1, rfl, dr1.2, by omega, fun x2 _ _ => ?_⟩
      have dr2 := dr1.trans (Dr.step dr1.2 (c + 2))
      generalize upd H1 D _ = H2 at *
      walk_at "ct"
      refine ⟨b, ws, rfl, .inl (.of (dr2.at hD hb)), ?_⟩
      walk_at "ct"
      refine w_mod (by omega) fun r r0 r1 => ?_
      walk_at "ct"
      refine ⟨D, c + 2, rfl, dr2.2, by omega, fun x3 _ _ => ?_⟩
      have dr3 := dr2.trans (Dr.step dr2.2 (c + 3))
      generalize upd H2 D _ = H3 at *
      walk_at "ct"
      refine ⟨b, ws, rfl, .inl (.of (dr3.at hD hb)), ?_⟩
      walk_at "ct"
      refine w_mod (by omega) fun s s0 s1 => ?_
      walk_at "ct"
      refine ⟨len2 rfl, fun p np => ?_⟩
      walk_at "ct"
      refine q _ (.tuple [.str "none", .int (r - 1), .int s]) _ _ (dr3.same (same_upd np)) (by omega) (.tup (.of upd_same) (.cons (.str _) (.cons (.int _) (.cons (.int _) .nil)))) ?_
      exact ((BnA.cons (m := 4) (bn_by (by decide +kernel)) (BnA.cons (m := 0) (Bn.int (by omega)) (BnA.cons (m := 0) (n := 7) (Bn.int (by omega)) .nil0))).mono (m' := 2500) (Nat.le_refl _) (by decide)).tup
    walk_at "ct"
    refine w_ite (fun _ => ?_) (fun _ => ?_)
    · walk_at "ct"
      refine ⟨D, c + 1, rfl, dr1.2, by omega, fun x2 _ _ => ?_⟩
      have dr2 := dr1.trans (Dr.step dr1.2 (c + 2))
      generalize upd H1 D _ = H2 at *
      walk_at "ct"
      refine ⟨b, ws, rfl, .inl (.of (dr2.at hD hb)), ?_⟩
      walk_at "ct"
      refine w_mod (by omega) fun r r0 r1 => ?_
      walk_at "ct"
      refine ⟨len2 rfl, fun p np => ?_⟩
      walk_at "ct"
      refine q _ (.tuple [.str "none", .int r, .int r]) _ _ (dr2.same (same_upd np)) (by omega) (.tup (.of upd_same) (.cons (.str _) (.cons (.int _) (.cons (.int _) .nil)))) ?_
      exact ((BnA.cons (m := 4) (bn_by (by decide +kernel)) (BnA.cons (m := 0) (Bn.int (by omega)) (BnA.cons (m := 0) (n := 7) (Bn.int (by omega)) .nil0))).mono (m' := 2500) (Nat.le_refl _) (by decide)).tup
    walk_at "ct"
    refine w_ite (fun _ => ?_) (fun _ => ?_)
    · walk_at "ct"
      refine ⟨len2 rfl, fun l1 nl1 => ?_⟩
      have u1 : Same H1 (upd H1 l1 (.lst [.str "apart", .str "None", .str "nones", .str "wheel", .str "wheels"])) := same_upd nl1
      have hl1 : (upd H1 l1 (.lst [.str "apart", .str "None", .str "nones", .str "wheel", .str "wheels"])) l1 = some (.lst [.str "apart", .str "None", .str "nones", .str "wheel", .str "wheels"]) := upd_same
      generalize upd H1 l1 _ = H2 at *
      have dr2 := dr1.same u1
      walk_at "ct"
      refine ⟨D, c + 1, rfl, dr2.2, by omega, fun x2 _ _ => ?_⟩
      have st := Dr.step dr2.2 (c + 2)
      have hl2 := st.at dr2.2 hl1
      have dr3 := dr2.trans st
      clear st
      generalize upd H2 D _ = H3 at *
      walk_at "ct"
      refine w_mod (by decide) fun r r0 r1 => ?_
      refine w_someB hl2 r0 (by show r < ((5 : Nat) : Int); omega) fun sv hsv => ?_
      have sb : ∀ G, VB K G sv 2 6 := fun G => by
        simp only [List.mem_cons, List.not_mem_nil, or_false] at hsv
        rcases hsv with rfl | rfl | rfl | rfl | rfl <;> exact .str (by decide +kernel)
      have md3 := md.dr dr3 hD
      obtain ⟨xs, ds, hg, hds, bds⟩ := md3.open
      have T3 : TB K H3 (.ref g) 2 1400 := ⟨g, xs, ds, rfl, .of hg, hds, bds⟩
      have xl : xs.length ≤ 1400 := by rw [dpAll_len hds]; exact bds.len
      walk_at "ct"
      refine ⟨len2 rfl, fun n1 nn1 => ?_⟩
      have u2 : Same H3 (upd H3 n1 (.tup [sv])) := same_upd nn1
      have h2 : TB K (upd H3 n1 (.tup [sv])) (.ref n1) 2 7 := TB.one (.of upd_same) (sb _)
      generalize upd H3 n1 _ = H4 at *
      walk_at "ct"
      refine w_slTB (T3.same u2) fun v3 H5 u3 h3 => ?_
      refine w_catTB' (h2.same u3) h3 fun v4 H6 u4 h4 => ?_
      have s6 := (u2.trans u3).trans u4
      walk_at "ct"
      refine ⟨g, xs, rfl, .inr (.of (s6 _ _ hg)), fun l2 nl2 => ?_⟩
      have u5 : Same H6 (upd H6 l2 (.lst xs)) := same_upd nl2
      have h5 : LsB K (upd H6 l2 (.lst xs)) (.ref l2) 2 1400 := ⟨l2, xs, ds, rfl, upd_same, dpAll_same (s6.trans u5) hds, bds⟩
      generalize upd H6 l2 _ = H7 at *
      have s7 := s6.trans u5
      walk_at "ct"
      refine ⟨len2 rfl, fun n2 nn2 => ?_⟩
      have u6 : Same H7 (upd H7 n2 (.tup [.int 0])) := same_upd nn2
      have h6 : TB K (upd H7 n2 (.tup [.int 0])) (.ref n2) 2 1 := TB.one (m := 0) (.of upd_same) (.int (by decide))
      generalize upd H7 n2 _ = H8 at *
      refine w_catTB' (T3.same (s7.trans u6)) h6 fun v7 H9 u7 h7 => ?_
      have s9 := s7.trans (u6.trans u7)
      walk_at "ct"
      refine w_slTB (T3.same s9) fun v8 HA u8 h8 => ?_
      walk_at "ct"
      refine ⟨len2 rfl, fun n3 nn3 => ?_⟩
      have u9 : Same HA (upd HA n3 (.tup [.str "none"])) := same_upd nn3
      have h9 : TB K (upd HA n3 (.tup [.str "none"])) (.ref n3) 2 5 := TB.one (m := 4) (.of upd_same) (.str (by decide +kernel))
      generalize upd HA n3 _ = HB at *
      have sB := s9.trans (u8.trans u9)
      walk_at "ct"
      refine w_slTB (T3.same sB) fun vA HC uA hA => ?_
      refine w_catTB' (h9.same uA) hA fun vB HE uB hB => ?_
      walk_at "ct"
      refine ⟨len2 rfl, fun l3 nl3 => ?_⟩
      have uC : Same HE (upd HE l3 (.lst [.ref l2, v7, v8, vB, v4])) := same_upd nl3
      have hl3 : (upd HE l3 (.lst [.ref l2, v7, v8, vB, v4])) l3 = some (.lst [.ref l2, v7, v8, vB, v4]) := upd_same
      generalize upd HE l3 _ = HF at *
      have toF := ((u8.trans u9).trans (uA.trans uB)).trans uC
      have all5 : ∀ v ∈ [V.ref l2, v7, v8, vB, v4], VB K HF v 4 1410 := fun v hv => by
        simp only [List.mem_cons, List.not_mem_nil, or_false] at hv
        rcases hv with rfl | rfl | rfl | rfl | rfl
        · exact (h5.same ((u6.trans u7).trans toF)).vb.mono (by decide) (by decide)
        · exact (h7.same toF).vb.mono (by decide) (by decide)
        · exact (h8.same ((u9.trans (uA.trans uB)).trans uC)).vb.mono (by decide) (by decide)
        · exact (hB.same uC).vb.mono (by decide) (by decide)
        · exact (h4.same ((u5.trans (u6.trans u7)).trans toF)).vb.mono (by decide) (by decide)
      have drF := dr3.same (sB.trans ((uA.trans uB).trans uC))
      walk_at "ct"
      refine ⟨D, c + 2, rfl, drF.2, by omega, fun x4 _ _ => ?_⟩
      have st := Dr.step drF.2 (c + 3)
      have hl4 := st.at drF.2 hl3
      have drG := drF.trans st
      have all5' : ∀ v ∈ [V.ref l2, v7, v8, vB, v4], VB K (upd HF D (DrO D (c + 3))) v 4 1410 := fun v hv => (all5 v hv).dr st drF.2
      clear st
      generalize upd HF D _ = HG at *
      walk_at "ct"
      refine w_mod (by decide) fun r2 r20 r21 => ?_
      refine w_someB hl4 r20 (by show r2 < ((5 : Nat) : Int); omega) fun v hv => ?_
      walk_at "ct"
      obtain ⟨d, hd, hb⟩ := all5' v hv
      exact q v d _ _ drG (by omega) hd (hb.mono (by decide) (by decide))
    with_reducible refine w_next ?_
    rcases md1 with ⟨j, k, hg, j3, k3, _⟩ | ⟨t, m, bl, ms, us, bars, hg, hm, hbl, hu, mw, _⟩
    · have hgS : SqT K H1 g [.str "none", .int (j : Int), .int (k : Int)] := .of hg
      walk_at "ct"
      refine ⟨D, c + 1, rfl, dr1.2, by omega, fun x2 _ _ => ?_⟩
      have dr2 := dr1.trans (Dr.step dr1.2 (c + 2))
      generalize upd H1 D _ = H2 at *
      walk_at "ct"
      refine w_mod (by decide) fun r r0 r1 => ?_
      walk_at "ct"
      refine ⟨len2 rfl, fun p np => ?_⟩
      walk_at "ct"
      refine q _ (.tuple [.str "none", .int k, .int (j + r)]) _ _ (dr2.same (same_upd np)) (by omega) (.tup (.of upd_same) (.cons (.str _) (.cons (.int _) (.cons (.int _) .nil)))) ?_
      exact ((BnA.cons (m := 4) (bn_by (by decide +kernel)) (BnA.cons (m := 0) (Bn.int (by omega)) (BnA.cons (m := 0) (n := 7) (Bn.int (by omega)) .nil0))).mono (m' := 2500) (Nat.le_refl _) (by decide)).tup
    · have hgS : SqT K H1 g [.str "wheel", .int (t : Int), .ref m, .ref bl] := .of hg
      walk_at "ct"
      refine ⟨D, b, g, m, bl, va, c + 1, t, ws, us, ms, bars, rfl, dr1.2, by omega, hb1, wl, hg, hm, hbl, hu, mw, fun v d c' H2 dr2 cl hv bn => ?_⟩
      exact q v d _ _ (dr1.trans dr2) (by omega) hv bn
abbrev S_law : Stmt := topS 65
theorem sc_law : FnScope ["_law_script", "_law_cell", "_law_draws_here", "_law_train_here", "_law_stand_here", "_law_most", "_law_ways", "_law_shows", "_law_thing", "_law_k", "_law_some", "_law_one", "_law_text", "_law_due_here", "_law_found"] ["_law_script"] (defScope S_law) := ⟨rfl, rfl, rfl, by decide +kernel, rfl, by decide +kernel, by decide +kernel⟩
def sp_law (K : PySem.W.Frag) (T : List Addr) : Sp := fun vs H Q _ => ∃ (a : Addr) (ns : List Int), vs = [.ref a] ∧ SqL K H a (ns.map V.int) ∧ ns.length ≤ 63 ∧ Tb T H ∧ ∀ H', Same H H' → Q (.bl true) H'
theorem ok_law {f : Addr} {fd : FuncData} {f_is_smallest_behind : Addr} {fd_is_smallest_behind : FuncData} {f__law_judged : Addr} {fd__law_judged : FuncData} {f__law_mended : Addr} {fd__law_mended : FuncData} {f__law_made : Addr} {fd__law_made : FuncData} {f_smallest_behind : Addr} {fd_smallest_behind : FuncData} {f__law_bent : Addr} {fd__law_bent : FuncData} {f__law_shows_behind : Addr} {fd__law_shows_behind : FuncData} {f__law_next : Addr} {fd__law_next : FuncData} {f__law_stand : Addr} {fd__law_stand : FuncData} {f__law_train : Addr} {fd__law_train : FuncData} {f__law_draws : Addr} {fd__law_draws : FuncData} {T : List Addr} (F : Fun K "law" "law" S_law f fd)
    (F_is_smallest_behind : Fun K "is_smallest_behind" "is_smallest_behind" S_is_smallest_behind f_is_smallest_behind fd_is_smallest_behind) (b_is_smallest_behind : Binds K fd_is_smallest_behind ["train", "stand", "shows", "thing"] []) (g_is_smallest_behind : mg "is_smallest_behind" = some (.ref f_is_smallest_behind)) (G_is_smallest_behind : FnOk P w K mg base CX0 9 f_is_smallest_behind fd_is_smallest_behind ["train", "stand", "shows", "thing"] (sp_is_smallest_behind K T))
    (F__law_judged : Fun K "_law_judged" "_law_judged" S__law_judged f__law_judged fd__law_judged) (b__law_judged : Binds K fd__law_judged ["_law_ways", "_law_shows", "_law_thing"] []) (g__law_judged : mg "_law_judged" = some (.ref f__law_judged)) (G__law_judged : FnOk P w K mg base CX0 3 f__law_judged fd__law_judged ["_law_ways", "_law_shows", "_law_thing"] (sp__law_judged K))
    (F__law_mended : Fun K "_law_mended" "_law_mended" S__law_mended f__law_mended fd__law_mended) (b__law_mended : Binds K fd__law_mended ["_law_draws_here", "_law_ways", "_law_shows"] []) (g__law_mended : mg "_law_mended" = some (.ref f__law_mended)) (G__law_mended : FnOk P w K mg base CX0 2 f__law_mended fd__law_mended ["_law_draws_here", "_law_ways", "_law_shows"] (sp__law_mended K))
    (F__law_made : Fun K "_law_made" "_law_made" S__law_made f__law_made fd__law_made) (b__law_made : Binds K fd__law_made ["_law_draws_here", "_law_ways", "_law_shows"] []) (g__law_made : mg "_law_made" = some (.ref f__law_made)) (G__law_made : FnOk P w K mg base CX0 3 f__law_made fd__law_made ["_law_draws_here", "_law_ways", "_law_shows"] (sp__law_made K))
    (F_smallest_behind : Fun K "smallest_behind" "smallest_behind" S_smallest_behind f_smallest_behind fd_smallest_behind) (b_smallest_behind : Binds K fd_smallest_behind ["train", "stand", "shows"] []) (g_smallest_behind : mg "smallest_behind" = some (.ref f_smallest_behind)) (G_smallest_behind : FnOk P w K mg base CX0 9 f_smallest_behind fd_smallest_behind ["train", "stand", "shows"] (sp_smallest_behind K T))
    (F__law_bent : Fun K "_law_bent" "_law_bent" S__law_bent f__law_bent fd__law_bent) (b__law_bent : Binds K fd__law_bent ["_law_draws_here", "_law_ways", "_law_shows", "_law_thing"] []) (g__law_bent : mg "_law_bent" = some (.ref f__law_bent)) (G__law_bent : FnOk P w K mg base CX0 3 f__law_bent fd__law_bent ["_law_draws_here", "_law_ways", "_law_shows", "_law_thing"] (sp__law_bent K))
    (F__law_shows_behind : Fun K "_law_shows_behind" "_law_shows_behind" S__law_shows_behind f__law_shows_behind fd__law_shows_behind) (b__law_shows_behind : Binds K fd__law_shows_behind ["_law_draws_here", "_law_train_here", "_law_stand_here", "_law_most"] []) (g__law_shows_behind : mg "_law_shows_behind" = some (.ref f__law_shows_behind)) (G__law_shows_behind : FnOk P w K mg base CX0 3 f__law_shows_behind fd__law_shows_behind ["_law_draws_here", "_law_train_here", "_law_stand_here", "_law_most"] (sp__law_shows_behind K))
    (F__law_next : Fun K "_law_next" "_law_next" S__law_next f__law_next fd__law_next) (b__law_next : Binds K fd__law_next ["_law_draws_here"] []) (g__law_next : mg "_law_next" = some (.ref f__law_next)) (G__law_next : FnOk P w K mg base CX0 1 f__law_next fd__law_next ["_law_draws_here"] (sp__law_next K))
    (F__law_stand : Fun K "_law_stand" "_law_stand" S__law_stand f__law_stand fd__law_stand) (b__law_stand : Binds K fd__law_stand ["_law_draws_here", "_law_train_here"] []) (g__law_stand : mg "_law_stand" = some (.ref f__law_stand)) (G__law_stand : FnOk P w K mg base CX0 2 f__law_stand fd__law_stand ["_law_draws_here", "_law_train_here"] (sp__law_stand K))
    (F__law_train : Fun K "_law_train" "_law_train" S__law_train f__law_train fd__law_train) (b__law_train : Binds K fd__law_train ["_law_draws_here"] []) (g__law_train : mg "_law_train" = some (.ref f__law_train)) (G__law_train : FnOk P w K mg base CX0 2 f__law_train fd__law_train ["_law_draws_here"] (sp__law_train K))
    (F__law_draws : Fun K "_law_draws" "_law_draws" S__law_draws f__law_draws fd__law_draws) (b__law_draws : Binds K fd__law_draws ["_law_cell"] []) (g__law_draws : mg "_law_draws" = some (.ref f__law_draws)) (G__law_draws : FnOk P w K mg base CX0 1 f__law_draws fd__law_draws ["_law_cell"] (sp__law_draws K)) (m_max : mg "max" = none) (m_enumerate : mg "enumerate" = none) (m_str : mg "str" = none) (m_int : mg "int" = none) (m_range : mg "range" = none) (m_isinstance : mg "isinstance" = none) (m_bool : mg "bool" = none) :
    FnG P w K mg base CX0 10 f fd ["_law_script"] (sp_law K T) := by
  refine fnG_of0 F sc_law (fun vs H Q E h => ?_) (fun cdv A gd outer s H vs Q E hr h => ?_)
  ·
    obtain ⟨a, ns, rfl, _⟩ := h
    rfl
  ·
    obtain ⟨a0, ns, rfl, hS, hlen, hTb, q⟩ := h
    refine ⟨_, (pss_cons (ps_for PassesOwn.never rfl (pi_list (pe_op op_cat (pe_slice (r := rSlL K) sl_list (pv 0) po_none (po_some pe_int)) (pe_lst (pa_cons pe_int pa_nil)))) (pg_name (i := 1) sc_law.nd rfl (.inl rfl))
      (pss_cons (ps_set (i := 2) sc_law.nd rfl (.inr rfl) (pe_call G__law_draws (hr.mono (by decide)) (by rfl) g__law_draws F__law_draws.kp b__law_draws .nil pass0 (pa_cons (pv 1) pa_nil)))
      (pss_cons (ps_set (i := 3) sc_law.nd rfl (.inl rfl) (pe_call G__law_train (hr.mono (by decide)) (by rfl) g__law_train F__law_train.kp b__law_train .nil pass0 (pa_cons (pv 2) pa_nil)))
      (pss_cons (ps_set (i := 4) sc_law.nd rfl (.inl rfl) (pe_call G__law_stand (hr.mono (by decide)) (by rfl) g__law_stand F__law_stand.kp b__law_stand .nil pass0 (pa_cons (pv 2) (pa_cons (pv 3) pa_nil))))
      (pss_cons (ps_set (i := 5) sc_law.nd rfl (.inl rfl) (pe_callB (call_max2 rfl) (by rfl) m_max (by decide +kernel) (pa_cons (pe_ix (r := rIxL K) ix_list (pe_lst (pa_cons pe_int (pa_cons pe_int (pa_cons pe_int (pa_cons pe_int pa_nil))))) (pe_op op_mod (pe_call G__law_next (hr.mono (by decide)) (by rfl) g__law_next F__law_next.kp b__law_next .nil pass0 (pa_cons (pv 2) pa_nil)) pe_int) (fun _ _ => rfl)) (pa_cons (pe_op op_mulW pe_int (pe_callTy call_int1 (by rfl) m_int (by decide +kernel) (pa_cons (pe_cmpR op_eq (pe_op op_mod (pe_op op_add (pv 1) (pe_op op_fdivW (pv 1) (pe_op op_powB pe_int pe_int))) pe_int) pe_int (nomark _)) pa_nil))) pa_nil))))
      (pss_cons (ps_asg (pe_call G__law_shows_behind (hr.mono (by decide)) (by rfl) g__law_shows_behind F__law_shows_behind.kp b__law_shows_behind .nil pass0 (pa_cons (pv 2) (pa_cons (pv 3) (pa_cons (pv 4) (pa_cons (pv 5) pa_nil))))) (pg_tup rfl (pgs_cons (pg_name (i := 6) sc_law.nd rfl (.inr rfl)) (pgs_cons (pg_name (i := 7) sc_law.nd rfl (.inr rfl)) pgs_nil))))
      (pss_cons (ps_set (i := 8) sc_law.nd rfl (.inr rfl) (pe_call G__law_made (hr.mono (by decide)) (by rfl) g__law_made F__law_made.kp b__law_made .nil pass0 (pa_cons (pv 2) (pa_cons (pv 6) (pa_cons (pv 7) pa_nil)))))
      (pss_cons (ps_set (i := 10) sc_law.nd rfl (.inl rfl) (pe_op op_cat (pe_lst (pa_cons (pe_call G_smallest_behind (hr.mono (by decide)) (by rfl) g_smallest_behind F_smallest_behind.kp b_smallest_behind .nil pass0 (pa_cons (pv 3) (pa_cons (pv 4) (pa_cons (pv 7) pa_nil)))) (pa_cons (pv 8) pa_nil))) (pe_lc (own := [("_law_k", 9)]) (g := gName 9)  rfl sc_law.nd  (pi_range1 (by rfl) m_range (pa_cons pe_int pa_nil)) (blkOk_by (own := [("_law_k", 9)]) (N := ["_law_script", "_law_cell", "_law_draws_here", "_law_train_here", "_law_stand_here", "_law_most", "_law_ways", "_law_shows", "_law_thing", "_law_k", "_law_some", "_law_one", "_law_text", "_law_due_here", "_law_found"]) (sc := defScope S_law) (by decide +kernel)) (fun _ _ _ _ _ => pg_name (i := 9) sc_law.nd rfl (Or.inl rfl)) (fun _ _ _ _ _ => pts_nil) (fun _ _ _ _ _ => (pe_frame (pe_call G__law_bent (hr.mono (by decide)) (by rfl) g__law_bent F__law_bent.kp b__law_bent .nil pass0 (pa_cons (pv 2) (pa_cons (pv 6) (pa_cons (pv 7) (pa_cons (pv 8) pa_nil))))))))))
      (pss_cons (ps_expr (pe_bm PySem.F.plainAttrs_list PySem.F.slot_list_append PySem.F.type_list_append mt_append (pv 10) (pa_cons (pe_frame (pe_call G__law_made (hr.mono (by decide)) (by rfl) g__law_made F__law_made.kp b__law_made .nil pass0 (pa_cons (pv 2) (pa_cons (pv 6) (pa_cons (pe_call G__law_mended (hr.mono (by decide)) (by rfl) g__law_mended F__law_mended.kp b__law_mended .nil pass0 (pa_cons (pv 2) (pa_cons (pv 6) (pa_cons (pv 7) pa_nil)))) pa_nil))))) pa_nil)))
      (pss_one (ps_for PassesOwn.never rfl (pi_enum (by rfl) m_enumerate (pa_cons (pv 10) pa_nil)) (pg_tup rfl (pgs_cons (pg_name (i := 9) sc_law.nd rfl (.inl rfl)) (pgs_cons (pg_name (i := 11) sc_law.nd rfl (.inl rfl)) pgs_nil)))
      (pss_cons (ps_set (i := 12) sc_law.nd rfl (.inl rfl) (pe_callTy (r := rStrB K) (call_strB gd hr.units) (by rfl) m_str (by decide +kernel) (pa_cons (pe_lst (pa_cons (pv 3) (pa_cons (pv 7) (pa_cons (pv 11) pa_nil)))) pa_nil)))
      (pss_cons (ps_set (i := 13) sc_law.nd rfl (.inl rfl) (pe_or (pe_cmpR op_lt (pv 9) pe_int (nomark _)) (pe_one (pe_call G__law_judged (hr.mono (by decide)) (by rfl) g__law_judged F__law_judged.kp b__law_judged .nil pass0 (pa_cons (pv 6) (pa_cons (pv 7) (pa_cons (pv 11) pa_nil)))))))
      (pss_cons (ps_set (i := 14) sc_law.nd rfl (.inl rfl) (pe_call G_is_smallest_behind (hr.mono (by decide)) (by rfl) g_is_smallest_behind F_is_smallest_behind.kp b_is_smallest_behind .nil pass0 (pa_cons (pv 3) (pa_cons (pv 4) (pa_cons (pv 7) (pa_cons (pv 11) pa_nil))))))
      (pss_one (ps_if (PW.pt (pw_or (pt_not (pt_val (pe_callB (r := rIsi K) call_isi (by rfl) m_isinstance (by decide +kernel) (pa_cons (pv 14) (pa_cons (pe_bltn (v := .ty "bool") (u := .type "bool") (by rfl) m_bool (by decide +kernel) rfl) pa_nil))))) (pw_or (pt_cmpR op_ne (pv 14) (pv 13) (nomark _)) (pw_or1 (pt_cmpR op_ne (pe_callTy (r := rStrB K) (call_strB gd hr.units) (by rfl) m_str (by decide +kernel) (pa_cons (pe_lst (pa_cons (pv 3) (pa_cons (pv 7) (pa_cons (pv 11) pa_nil)))) pa_nil)) (pv 12) (nomark _)))))) (pss_one (ps_ret pe_bl)) pss_nil))))))))))))))))
      (pss_one (ps_ret pe_bl))), ?_⟩
    refine w_st (σ' := [some (.ref a0), none, none, none, none, none, none, none, none, none, none, none, none, none, none]) rfl ?_
    walk_at "ct"
    refine w_slL hS fun p np => ?_
    walk_at "ct"
    refine ⟨len2 rfl, fun p2 np2 => ?_⟩
    obtain ⟨cs, hcs, cl⟩ : ∃ cs : List Int, cutV (ns.map V.int) none (some 5) = cs.map V.int ∧ cs.length ≤ 63 := by
      refine ⟨_, cutV_map ns none (some 5), ?_⟩
      have := cutV_length (ns.map V.int) none (some 5)
      rw [cutV_map, List.length_map, List.length_map] at this
      omega
    rw [hcs] at np2 ⊢
    refine ⟨p, p2, _, _, rfl, rfl, by rw [upd_ne (ne_of_none upd_same np2)]; exact upd_same, upd_same, ?_, fun p3 np3 => ?_⟩
    · rw [List.length_map]
      exact Nat.le_trans (show cs.length + 1 ≤ 64 by omega) (by decide)
    walk_at "ct"
    have hx : (cs.map V.int ++ [V.int 0]) = (cs ++ [0]).map V.int := by rw [List.map_append]; rfl
    rw [hx] at *
    refine w_IL (.of upd_same) ?_
    have hL : SqL K (upd (upd (upd H p (.lst (cs.map V.int))) p2 (.lst [.int 0])) p3 (.lst ((cs ++ [0]).map V.int))) p3 ((cs ++ [0]).map V.int) := .of upd_same
    have sHH : Same H (upd (upd (upd H p (.lst (cs.map V.int))) p2 (.lst [.int 0])) p3 (.lst ((cs ++ [0]).map V.int))) := ((same_upd np).trans (same_upd np2)).trans (same_upd np3)
    generalize upd (upd (upd H p _) p2 _) p3 _ = HH at *
    refine fb_list ((cs ++ [0]).map V.int) (fun n σ H' => ∃ y1 y2 y3 y4 y5 y6 y7 y8 y9 y10 y11 y12 y13 y14, σ = [some (.ref a0), y1, y2, y3, y4, y5, y6, y7, y8, y9, y10, y11, y12, y13, y14] ∧ Same HH H') ⟨none, none, none, none, none, none, none, none, none, none, none, none, none, none, rfl, Same.refl _⟩ ?_ ?_ ?_
    · rintro n σ H' hn ⟨y1, y2, y3, y4, y5, y6, y7, y8, y9, y10, y11, y12, y13, y14, rfl, sm⟩
      exact sm.seq hL
    · rintro n x σ H' hx ⟨y1, y2, y3, y4, y5, y6, y7, y8, y9, y10, y11, y12, y13, y14, rfl, sm⟩
      obtain ⟨c, rfl⟩ : ∃ c : Int, x = .int c := by
        obtain ⟨k, _, rfl⟩ := List.mem_map.mp (List.mem_of_getElem? hx)
        exact ⟨k, rfl⟩
      walk_at "ct"
      refine ⟨c, rfl, fun D H1 s1 nD hD => ?_⟩
      walk_at "ct"
      refine ⟨D, 0, rfl, hD, by omega, fun a tws ps c1 H2 d2 c1l na ha htd hok p1 p4 => ?_⟩
      have hok1 : ∀ p ∈ ps, p.ok := fun p hp => (hok p hp).1
      walk_at "ct"
      refine ⟨D, a, c1, tws, ps, rfl, d2.2, by omega, ha, htd, hok1, by omega, fun xs t H3 d3 ht hso => ?_⟩
      have ha3 := d3.at d2.2 ha
      have hd3 := d3.all d2.2 htd
      walk_at "ct"
      refine ⟨len2 rfl, fun g7 ng7 => ?_⟩
      have u7 : Same H3 (upd H3 g7 (.lst [.int 31, .int 31, .int 31, .int 81])) := same_upd ng7
      have hg7 : (upd H3 g7 (.lst [.int 31, .int 31, .int 31, .int 81])) g7 = some (.lst [.int 31, .int 31, .int 31, .int 81]) := upd_same
      generalize upd H3 g7 _ = H7 at *
      have d7 := d3.same u7
      walk_at "ct"
      refine ⟨D, _, rfl, d7.2, by omega, fun n4 _ _ => ?_⟩
      have st8 := Dr.step d7.2 (c1 + ps.length + 1)
      have hg8 := st8.at d7.2 hg7
      have ha8 := st8.at d7.2 (u7 _ _ ha3)
      have hd8 := st8.all d7.2 (dpAll_same u7 hd3)
      have ht8 := but_tup (drO_ext d7.2) st8.1 (Same.tup u7 ht)
      have d8 := (d2.trans d7).trans st8
      clear st8 u7 hg7 d7 d3 d2 ha3 hd3 ha htd ht
      generalize upd H7 D _ = H8 at *
      walk_at "ct"
      refine w_mod (by decide) fun r6 r60 r61 => ?_
      obtain ⟨tp, htp, tp1, tp2⟩ : ∃ tp : Nat, atI [V.int 31, .int 31, .int 31, .int 81] r6 = some (.int (tp : Int)) ∧ 1 ≤ tp ∧ tp ≤ 81 := by
        have : r6 = 0 ∨ r6 = 1 ∨ r6 = 2 ∨ r6 = 3 := by omega
        rcases this with rfl | rfl | rfl | rfl
        · exact ⟨31, rfl, by decide, by decide⟩
        · exact ⟨31, rfl, by decide, by decide⟩
        · exact ⟨31, rfl, by decide, by decide⟩
        · exact ⟨81, rfl, by decide, by decide⟩
      refine w_ixL (.of hg8) htp ?_
      walk_at "ct"
      refine w_rIv (.int 1000000) ⟨by decide, by decide⟩ rfl ?_
      refine w_div (div_ok (by decide) (by decide)) fun r4 => ?_
      walk_at "ct"
      refine w_mod (by decide) fun r5 _ _ => ?_
      walk_at "ct"
      refine .inr ⟨_, rfl, ?_⟩
      obtain ⟨gr, hgr, gr1⟩ : ∃ gr : Nat, (301 : Int) * (if decide (r5 = 13) = true then 1 else 0) = (gr : Int) ∧ gr ≤ 301 := by
        split
        · exact ⟨301, rfl, by decide⟩
        · exact ⟨0, rfl, by decide⟩
      refine w_rIv (.int (gr : Int)) (wide_mul (a := 10) (b := 10) (by decide) (by split <;> decide) (by decide) (by decide) (by decide)) (congrArg V.int hgr) ?_
      walk_at "ct"
      refine ⟨_, _, rfl, ?_⟩
      obtain ⟨most, hmost, m1, m2⟩ : ∃ most : Nat, (if (gr : Int) > (tp : Int) then (gr : Int) else (tp : Int)) = (most : Int) ∧ 1 ≤ most ∧ most ≤ 301 := by
        split
        · exact ⟨gr, rfl, by omega, by omega⟩
        · exact ⟨tp, rfl, by omega, by omega⟩
      rw [hmost]
      walk_at "ct"
      refine ⟨D, a, t, _, most, tws, ps, xs, rfl, d8.2, by omega, ha8, hd8, hok1, p1, by omega, ht8, hso, m1, by omega, fun gg wa b ws ss cB I1 d5 cBl hgg nwa nsa hwa hb1 hd1 oks sl0 => ?_⟩
      have sB1 : Same H' I1 := (d8.trans d5).1.same nD s1
      have haB := d5.at d8.2 ha8
      have hdB := d5.all d8.2 hd8
      have htB := but_tup (drO_ext d8.2) d5.1 ht8
      have hD1 := d5.2
      clear d5 d8 ha8 hd8 ht8 nwa nsa na
      have sl : ss.length ≤ 310 := by omega
      have wl : ws.length = ss.length := by rw [dpAll_len hd1, List.length_map]
      have tB1 := hTb.same ((sHH.trans sm).trans sB1)
      have fl : (fedS ps xs (ss.map (·.1))).2.length = ss.length := by rw [fedS_len, List.length_map]
      have wk0 := walky_pass (comes_ok (ps := ps) (xs := xs) oks) fl
      have csg : ∀ c ∈ (fedS ps xs (ss.map (·.1))).2, c = 0 ∨ Sign c := fun c hc => by
        rcases comes_ok (ps := ps) (xs := xs) oks c hc with e | e | e
        · exact .inr (.inl e)
        · exact .inl e
        · exact .inr (.inr e)
      obtain ⟨fs, hfs⟩ : ∃ fs, fs = (fedS ps xs (ss.map (·.1))).2 := ⟨_, rfl⟩
      obtain ⟨PS, hPS⟩ : ∃ PS, PS = passN fs ss ss.length := ⟨_, rfl⟩
      rw [← hfs] at fl csg hwa
      have wk : Walky PS := by rw [hPS, hfs]; exact wk0
      have pl : PS.length = ss.length := by rw [hPS]; exact pass_len fl
      refine w_gtup (.of hgg) rfl ?_
      walk_at "ct"
      refine ⟨D, wa, b, cB, fs, ws, ss, rfl, hD1, by omega, hwa, hb1, hd1, fl, sl, csg, fun th c2 I2 d2 c2l md => ?_⟩
      rw [← hPS] at md
      have hb2 := d2.at hD1 hb1
      have ha2 := d2.at hD1 haB
      have hp2 := d2.all hD1 hdB
      have ht2 := but_tup (drO_ext hD1) d2.1 htB
      have hwa2 := d2.at hD1 hwa
      have hd2 := d2.all hD1 hd1
      have sB2 : Same H' I2 := d2.1.same nD sB1
      have tB2 := hTb.same ((sHH.trans sm).trans sB2)
      walk_at "ct"
      refine ⟨a, t, b, ps, xs, ws, ss, rfl, ⟨tws, .of ha2, hp2⟩, hok1, p1, by omega, ht2, hso, .of hb2, hd2, oks, by omega, tB2, fun g0 I3 s3 ok => ?_⟩
      rw [← hfs, ← hPS] at ok
      have md0 := ok.t.md wk (by omega)
      walk_at "ct"
      refine ⟨len2 rfl, fun l0 nl0 => ?_⟩
      have u4 : Same I3 (upd I3 l0 (.lst [.ref g0, .ref th])) := same_upd nl0
      have hl0 : (upd I3 l0 (.lst [.ref g0, .ref th])) l0 = some (.lst [.ref g0, .ref th]) := upd_same
      generalize upd I3 l0 _ = I4 at *
      have s24 := s3.trans u4
      have hD4 := s24 _ _ d2.2
      have hb4 := s24 _ _ hb2
      have ha4 := s24 _ _ ha2
      have hp4 := dpAll_same s24 hp2
      have ht4 := Same.tup s24 ht2
      have hwa4 := s24 _ _ hwa2
      have hd4 := dpAll_same s24 hd2
      have md4 := md.same s24
      have md04 := md0.same u4
      have sB4 := sB2.trans s24
      clear md md0 s3 u4 s24 hb2 hwa2 hd2 hb1 hwa hd1 sB2 tB2 tB1 ok
      walk_at "ct"
      refine w_RG1 (by decide) (by decide) ?_
      refine lb_range (fun A k G => ∃ (cG : Nat) (vs : List V) (ds : List PyData), Dr D cG I4 G ∧ cG ≤ c2 + 10 * k ∧ G A = some (.lst vs) ∧ DpAll K (delH G A) vs ds ∧ vs.length = k ∧ ∀ d ∈ ds, Bn d 8 2500) (fun A nA => ⟨c2, [], [], (Dr.refl hD4).same (same_upd nA), by omega, upd_same, .nil, rfl, fun _ z => nomatch z⟩) ?_ ?_
      · rintro A nA k G hk ⟨cG, vs, ds, dG, cGl, hA, hds, vl, bds⟩
        have hk6 : k < 5 := hk
        have dA : D ≠ A := fun z => by rw [← z, hD4] at nA; cases nA
        have dG' : Dr D cG I4 (delH G A) := ⟨fun a o na h => by rw [delH_ne (fun z => by rw [z, nA] at h; cases h)]; exact dG.1 a o na h, by rw [delH_ne dA]; exact dG.2⟩
        walk_at "ct"
        refine ⟨rfl, ?_⟩
        walk_at "ct"
        refine w_frame hA ?_
        walk_at "ct"
        refine ⟨D, b, th, .ref wa, cG, ws, _, rfl, dG'.2, by omega, dG'.at hD4 hb4, by omega, md4.dr dG' hD4, fun v d c' G2 dG2 c'l hv bn => ?_⟩
        intro nA2
        refine ⟨vs, upd_same, small1000 (by omega), c', vs ++ [v], ds ++ [d], ?_, by omega, upd_same, ?_, by rw [List.length_append, vl]; rfl, fun e he => ?_⟩
        · rw [upd_upd]
          exact (dG'.trans dG2).same (same_upd nA2)
        · rw [upd_upd, delH_upd nA2]
          exact dpAll_app (dG2.all dG'.2 hds) (.cons hv .nil)
        · rcases List.mem_append.mp he with he | he
          · exact bds e he
          · rw [List.mem_singleton.mp he]
            exact bn
      rintro A nA I5 ⟨c5, vs, ds, d5, c5l, hA, hds0, vl, bds⟩
      have hds := dpAll_same delH_same hds0
      have vl6 : vs.length = 5 := vl
      have c5l : c5 ≤ c2 + 50 := c5l
      refine ⟨l0, A, _, _, rfl, rfl, d5.at hD4 hl0, hA, by rw [vl6]; show 2 + 5 ≤ sizeLine; decide, fun L nL => ?_⟩
      have u6 : Same I5 (upd I5 L (.lst ([.ref g0, .ref th] ++ vs))) := same_upd nL
      have hL6 : (upd I5 L (.lst ([.ref g0, .ref th] ++ vs))) L = some (.lst ([.ref g0, .ref th] ++ vs)) := upd_same
      walk_at "ct"
      refine ⟨ty_list hL6, ?_⟩
      walk_at "ct"
      refine w_frame hL6 ?_
      rw [delH_upd nL]
      clear u6 hL6
      have hb5 := d5.at hD4 hb4
      have ha5 := d5.at hD4 ha4
      have hp5 := d5.all hD4 hp4
      have ht5 := but_tup (drO_ext hD4) d5.1 ht4
      have hwa5 := d5.at hD4 hwa4
      have hd5 := d5.all hD4 hd4
      have md5 := md4.dr d5 hD4
      have md05 := md04.dr d5 hD4
      walk_at "ct"
      refine ⟨D, wa, b, c5, fs, ws, ss, rfl, d5.2, by omega, hwa5, hb5, hd5, fl, by omega, oks, csg, fun lm us ts I7 d7 nlm hlm hdm okm tsm => ?_⟩
      have tl : ts.length = ss.length := by
        have := congrArg List.length tsm
        rw [List.length_map, List.length_map] at this
        exact this
      walk_at "ct"
      refine ⟨D, wa, lm, c5 + 1, fs, us, ts, rfl, d7.2, by omega, d7.at d5.2 hwa5, hlm, hdm, by rw [fl, tl], by omega, csg, fun th2 c8 I8 d8 c8l md2 => ?_⟩
      intro nL8
      walk_at "ct"
      refine w_append upd_same (by rw [List.length_append, vl6]; show 2 + 5 < sizeLine; decide) ?_
      rw [upd_upd]
      have d58 := d7.trans d8
      obtain ⟨e0, h0, b0, r0⟩ := (md05.dr d58 d5.2).data
      obtain ⟨e1, h1, b1, r1⟩ := (md5.dr d58 d5.2).data
      obtain ⟨e2, h2, b2, r2⟩ := md2.data
      have all8 : DpAll K I8 ([.ref g0, .ref th] ++ vs ++ [.ref th2]) ([e0, e1] ++ ds ++ [e2]) := dpAll_app (dpAll_app (.cons h0 (.cons h1 .nil)) (d58.all d5.2 hds)) (.cons h2 .nil)
      have bnd : ∀ d ∈ [e0, e1] ++ ds ++ [e2], Bn d 8 2500 := fun d hd => by
        rcases List.mem_append.mp hd with hd | hd
        · rcases List.mem_append.mp hd with hd | hd
          · rcases List.mem_cons.mp hd with e | hd
            · rw [e]; exact b0.mono (by decide) (by decide)
            · rw [List.mem_singleton.mp hd]; exact b1.mono (by decide) (by decide)
          · exact bds d hd
        · rw [List.mem_singleton.mp hd]; exact b2.mono (by decide) (by decide)
      have first : ∀ (k : Nat) (d : PyData), k < 2 → ([e0, e1] ++ ds ++ [e2])[k]? = some d → rightB PS d = true := fun k d hk h => by
        have : k = 0 ∨ k = 1 := by omega
        rcases this with rfl | rfl
        · cases Option.some.inj h
          exact r0
        · cases Option.some.inj h
          exact r1
      have u9 : Same I8 (upd I8 L (.lst ([.ref g0, .ref th] ++ vs ++ [.ref th2]))) := same_upd nL8
      have hL9 : (upd I8 L (.lst ([.ref g0, .ref th] ++ vs ++ [.ref th2]))) L = some (.lst ([.ref g0, .ref th] ++ vs ++ [.ref th2])) := upd_same
      generalize upd I8 L _ = I9 at *
      have hb9 := u9 _ _ (d58.at d5.2 hb5)
      have ha9 := u9 _ _ (d58.at d5.2 ha5)
      have hp9 := dpAll_same u9 (d58.all d5.2 hp5)
      have ht9 := Same.tup u9 (but_tup (drO_ext d5.2) d58.1 ht5)
      have hwa9 := u9 _ _ (d58.at d5.2 hwa5)
      have hd9 := dpAll_same u9 (d58.all d5.2 hd5)
      have all9 := dpAll_same u9 all8
      have sB9 : Same H' I9 := (((d5.trans d58).same u9).1).same nD sB4
      have tB9 := hTb.same ((sHH.trans sm).trans sB9)
      generalize [V.ref g0, .ref th] ++ vs ++ [.ref th2] = els at *
      generalize [e0, e1] ++ ds ++ [e2] = eds at *
      clear md4 md04 md5 md05 md2 d5 d7 d8 d58 all8 u9 h0 h1 h2 hds hds0 hA
      walk_at "ct"
      refine w_IE (.of hL9) ?_
      refine fb_enumL els (fun k σ G => ∃ (y9 y11 y12 y13 y14 : Option V), σ = [some (.ref a0), some (.int c), some (.ref D), some (.ref a), some (.ref t), some (.int (most : Int)), some (.ref wa), some (.ref b), some (.ref th), y9, some (.ref L), y11, y12, y13, y14] ∧ Same I9 G) ⟨_, _, _, _, _, rfl, Same.refl _⟩ ?_ ?_ ?_
      · rintro k σ G _ ⟨y9, y11, y12, y13, y14, rfl, sG⟩
        exact .of (sG _ _ hL9)
      · rintro k y Tp σ G hy ⟨y9, y11, y12, y13, y14, rfl, sG⟩ nT
        have hk : k < els.length := (List.getElem?_eq_some_iff.mp hy).1
        obtain ⟨e, he⟩ : ∃ e, eds[k]? = some e := ⟨_, List.getElem?_eq_getElem (by rw [dpAll_len all9] at hk; exact hk)⟩
        obtain ⟨y', hy', hde⟩ := dpAll_get all9 he
        cases Option.some.inj (hy.symm.trans hy')
        have bn := bnd e (List.mem_of_getElem? he)
        have shw := shw_three (fun p hp => (hok p hp).2) p4 oks sl bn
        have sT : Same G (upd G Tp (.tup [.int (k : Nat), y])) := same_upd nT
        have hT : (upd G Tp (.tup [.int (k : Nat), y])) Tp = some (.tup [.int (k : Nat), y]) := upd_same
        generalize upd G Tp _ = G1 at *
        have s3 := sG.trans sT
        refine w_gtup (.of hT) rfl ?_
        walk_at "ct"
        refine ⟨len2 rfl, fun q1 nq1 => ?_⟩
        have v1 : Same G1 (upd G1 q1 (.lst [.ref a, .ref b, y])) := same_upd nq1
        have hq1 : (upd G1 q1 (.lst [.ref a, .ref b, y])) q1 = some (.lst [.ref a, .ref b, y]) := upd_same
        generalize upd G1 q1 _ = G2 at *
        have s4 := s3.trans v1
        have pair : ∀ {G : Hp} {l : Addr}, Same I9 G → G l = some (.lst [.ref a, .ref b, y]) → Dp K G (.ref l) (.list [.list (ps.map Part.data), .list (ss.map sh2D), e]) := fun s h => .lst (.of h) (.cons (.lst (.of (s _ _ ha9)) (dpAll_same s hp9)) (.cons (.lst (.of (s _ _ hb9)) (dpAll_same s hd9)) (.cons (dp_same s hde) .nil)))
        refine ⟨q1, _, rfl, pair s4 hq1, shw, ?_⟩
        walk_at "cq"
        with_reducible refine w_join (fun σ G => σ = [some (.ref a0), some (.int c), some (.ref D), some (.ref a), some (.ref t), some (.int (most : Int)), some (.ref wa), some (.ref b), some (.ref th), some (.int (k : Int)), some (.ref L), some y, some (.str (PyData.list [PyData.list (List.map Part.data ps), PyData.list (List.map sh2D ss), e]).shown), some (.bl (rightB PS e)), y14] ∧ Same I9 G) ?_ ?_
        · rintro σ J1 ⟨rfl, t1⟩
          walk_at "ct"
          refine ⟨a, t, b, ps, xs, ws, ss, y, e, rfl, ⟨tws, .of (t1 _ _ ha9), dpAll_same t1 hp9⟩, hok1, p1, by omega, Same.tup t1 ht9, hso, .of (t1 _ _ hb9), dpAll_same t1 hd9, oks, by omega, tB9.same t1, dp_same t1 hde, bn.lay, Nat.le_trans bn.dep (by decide), bn.marks (by decide), fun J2 t2 => ?_⟩
          rw [← hfs, ← hPS]
          have t12 := t1.trans t2
          walk_at "ct"
          refine w_isi (b := true) (.base (.bl _)) (kit_ty (by decide +kernel)) ?_
          walk_at "ct"
          refine ⟨rfl, ?_⟩
          refine ⟨false, by rw [decide_eq_true rfl]; rfl, ?_⟩
          walk_at "ct"
          refine ⟨len2 rfl, fun q2 nq2 => ?_⟩
          have v2 : Same J2 (upd J2 q2 (.lst [.ref a, .ref b, y])) := same_upd nq2
          have hq2 : (upd J2 q2 (.lst [.ref a, .ref b, y])) q2 = some (.lst [.ref a, .ref b, y]) := upd_same
          generalize upd J2 q2 _ = J3 at *
          have t13 := t12.trans v2
          refine ⟨q2, _, rfl, pair t13 hq2, shw, ?_⟩
          walk_at "ct"
          refine w_rNeW (b := false) (by rw [decide_eq_true rfl]; rfl) ?_
          walk_at "ct"
          exact ⟨_, _, _, _, _, rfl, t13⟩
        · intro N hN
          walk_at "ct"
          refine w_ite (fun z => ?_) (fun z => ?_)
          · rw [first k e (by omega) he] at hN
            walk_at "ct"
            exact hN _ _ ⟨rfl, s4⟩
          · walk_at "ct"
            refine ⟨wa, b, fs, ws, ss, y, e, rfl, .of (s4 _ _ hwa9), .of (s4 _ _ hb9), dpAll_same s4 hd9, fl, by omega, csg, dp_same s4 hde, bn, fun J1 t1 => ?_⟩
            rw [← hPS]
            walk_at "ct"
            exact hN _ _ ⟨rfl, s4.trans t1⟩
      · rintro σ G ⟨y9, y11, y12, y13, y14, rfl, sG⟩
        exact ⟨_, _, _, _, _, _, _, _, _, _, _, _, _, _, rfl, sm.trans (sB9.trans sG)⟩
    · rintro σ G ⟨y1, y2, y3, y4, y5, y6, y7, y8, y9, y10, y11, y12, y13, y14, rfl, sG⟩
      walk_at "ct"
      exact q G (sHH.trans sG)
end
theorem all_mk {l : PySem.W.OpenLaw} {w : World} {K : PySem.W.Frag} {h : Heap} {mg : Str → Option Value} {fa : Addr} (X : K.In h) (G : h.Ns mainGlobals mg) (hfa : mg "law" = some (.ref fa))
    {f_is_whole : Addr} {od0 an0 : Option Addr} {sl0 : Array (Option Value)} {oc0 kV0 dc0 pm0 cd0 ct0 : Value}
    (a0 : PySem.W.nsIn K mainGlobals "is_whole" = some (some (.ref f_is_whole))) (l0 : K.lookup f_is_whole = some ⟨oc0, od0, .func (PySem.W.fnOf "is_whole" "is_whole" (defArgs S_is_whole) (defBody S_is_whole) (defScope S_is_whole) .none kV0 dc0 pm0 an0 cd0 ct0), sl0⟩) (c0 : PySem.W.codeIn K cd0 "is_whole" = true) (k0 : PySem.W.keepIn K (.ref f_is_whole) = true)
    {f_are_marks : Addr} {od1 an1 : Option Addr} {sl1 : Array (Option Value)} {oc1 kV1 dc1 pm1 cd1 ct1 : Value}
    (a1 : PySem.W.nsIn K mainGlobals "are_marks" = some (some (.ref f_are_marks))) (l1 : K.lookup f_are_marks = some ⟨oc1, od1, .func (PySem.W.fnOf "are_marks" "are_marks" (defArgs S_are_marks) (defBody S_are_marks) (defScope S_are_marks) .none kV1 dc1 pm1 an1 cd1 ct1), sl1⟩) (c1 : PySem.W.codeIn K cd1 "are_marks" = true) (k1 : PySem.W.keepIn K (.ref f_are_marks) = true)
    {f_is_part : Addr} {od2 an2 : Option Addr} {sl2 : Array (Option Value)} {oc2 kV2 dc2 pm2 cd2 ct2 : Value}
    (a2 : PySem.W.nsIn K mainGlobals "is_part" = some (some (.ref f_is_part))) (l2 : K.lookup f_is_part = some ⟨oc2, od2, .func (PySem.W.fnOf "is_part" "is_part" (defArgs S_is_part) (defBody S_is_part) (defScope S_is_part) .none kV2 dc2 pm2 an2 cd2 ct2), sl2⟩) (c2 : PySem.W.codeIn K cd2 "is_part" = true) (k2 : PySem.W.keepIn K (.ref f_is_part) = true)
    {f_check_train : Addr} {od3 an3 : Option Addr} {sl3 : Array (Option Value)} {oc3 kV3 dc3 pm3 cd3 ct3 : Value}
    (a3 : PySem.W.nsIn K mainGlobals "check_train" = some (some (.ref f_check_train))) (l3 : K.lookup f_check_train = some ⟨oc3, od3, .func (PySem.W.fnOf "check_train" "check_train" (defArgs S_check_train) (defBody S_check_train) (defScope S_check_train) .none kV3 dc3 pm3 an3 cd3 ct3), sl3⟩) (c3 : PySem.W.codeIn K cd3 "check_train" = true) (k3 : PySem.W.keepIn K (.ref f_check_train) = true)
    {f_place_count : Addr} {od4 an4 : Option Addr} {sl4 : Array (Option Value)} {oc4 kV4 dc4 pm4 cd4 ct4 : Value}
    (a4 : PySem.W.nsIn K mainGlobals "place_count" = some (some (.ref f_place_count))) (l4 : K.lookup f_place_count = some ⟨oc4, od4, .func (PySem.W.fnOf "place_count" "place_count" (defArgs S_place_count) (defBody S_place_count) (defScope S_place_count) .none kV4 dc4 pm4 an4 cd4 ct4), sl4⟩) (c4 : PySem.W.codeIn K cd4 "place_count" = true) (k4 : PySem.W.keepIn K (.ref f_place_count) = true)
    {f_is_stand : Addr} {od5 an5 : Option Addr} {sl5 : Array (Option Value)} {oc5 kV5 dc5 pm5 cd5 ct5 : Value}
    (a5 : PySem.W.nsIn K mainGlobals "is_stand" = some (some (.ref f_is_stand))) (l5 : K.lookup f_is_stand = some ⟨oc5, od5, .func (PySem.W.fnOf "is_stand" "is_stand" (defArgs S_is_stand) (defBody S_is_stand) (defScope S_is_stand) .none kV5 dc5 pm5 an5 cd5 ct5), sl5⟩) (c5 : PySem.W.codeIn K cd5 "is_stand" = true) (k5 : PySem.W.keepIn K (.ref f_is_stand) = true)
    {f_check_stand : Addr} {od6 an6 : Option Addr} {sl6 : Array (Option Value)} {oc6 kV6 dc6 pm6 cd6 ct6 : Value}
    (a6 : PySem.W.nsIn K mainGlobals "check_stand" = some (some (.ref f_check_stand))) (l6 : K.lookup f_check_stand = some ⟨oc6, od6, .func (PySem.W.fnOf "check_stand" "check_stand" (defArgs S_check_stand) (defBody S_check_stand) (defScope S_check_stand) .none kV6 dc6 pm6 an6 cd6 ct6), sl6⟩) (c6 : PySem.W.codeIn K cd6 "check_stand" = true) (k6 : PySem.W.keepIn K (.ref f_check_stand) = true)
    {f_is_way : Addr} {od7 an7 : Option Addr} {sl7 : Array (Option Value)} {oc7 kV7 dc7 pm7 cd7 ct7 : Value}
    (a7 : PySem.W.nsIn K mainGlobals "is_way" = some (some (.ref f_is_way))) (l7 : K.lookup f_is_way = some ⟨oc7, od7, .func (PySem.W.fnOf "is_way" "is_way" (defArgs S_is_way) (defBody S_is_way) (defScope S_is_way) .none kV7 dc7 pm7 an7 cd7 ct7), sl7⟩) (c7 : PySem.W.codeIn K cd7 "is_way" = true) (k7 : PySem.W.keepIn K (.ref f_is_way) = true)
    {f_wheel_pushed : Addr} {od8 an8 : Option Addr} {sl8 : Array (Option Value)} {oc8 kV8 dc8 pm8 cd8 ct8 : Value}
    (a8 : PySem.W.nsIn K mainGlobals "wheel_pushed" = some (some (.ref f_wheel_pushed))) (l8 : K.lookup f_wheel_pushed = some ⟨oc8, od8, .func (PySem.W.fnOf "wheel_pushed" "wheel_pushed" (defArgs S_wheel_pushed) (defBody S_wheel_pushed) (defScope S_wheel_pushed) .none kV8 dc8 pm8 an8 cd8 ct8), sl8⟩) (c8 : PySem.W.codeIn K cd8 "wheel_pushed" = true) (k8 : PySem.W.keepIn K (.ref f_wheel_pushed) = true)
    {f_rocker_pushed : Addr} {od9 an9 : Option Addr} {sl9 : Array (Option Value)} {oc9 kV9 dc9 pm9 cd9 ct9 : Value}
    (a9 : PySem.W.nsIn K mainGlobals "rocker_pushed" = some (some (.ref f_rocker_pushed))) (l9 : K.lookup f_rocker_pushed = some ⟨oc9, od9, .func (PySem.W.fnOf "rocker_pushed" "rocker_pushed" (defArgs S_rocker_pushed) (defBody S_rocker_pushed) (defScope S_rocker_pushed) .none kV9 dc9 pm9 an9 cd9 ct9), sl9⟩) (c9 : PySem.W.codeIn K cd9 "rocker_pushed" = true) (k9 : PySem.W.keepIn K (.ref f_rocker_pushed) = true)
    {f_spring_pushed : Addr} {od10 an10 : Option Addr} {sl10 : Array (Option Value)} {oc10 kV10 dc10 pm10 cd10 ct10 : Value}
    (a10 : PySem.W.nsIn K mainGlobals "spring_pushed" = some (some (.ref f_spring_pushed))) (l10 : K.lookup f_spring_pushed = some ⟨oc10, od10, .func (PySem.W.fnOf "spring_pushed" "spring_pushed" (defArgs S_spring_pushed) (defBody S_spring_pushed) (defScope S_spring_pushed) .none kV10 dc10 pm10 an10 cd10 ct10), sl10⟩) (c10 : PySem.W.codeIn K cd10 "spring_pushed" = true) (k10 : PySem.W.keepIn K (.ref f_spring_pushed) = true)
    {f_part_pushed : Addr} {od11 an11 : Option Addr} {sl11 : Array (Option Value)} {oc11 kV11 dc11 pm11 cd11 ct11 : Value}
    (a11 : PySem.W.nsIn K mainGlobals "part_pushed" = some (some (.ref f_part_pushed))) (l11 : K.lookup f_part_pushed = some ⟨oc11, od11, .func (PySem.W.fnOf "part_pushed" "part_pushed" (defArgs S_part_pushed) (defBody S_part_pushed) (defScope S_part_pushed) .none kV11 dc11 pm11 an11 cd11 ct11), sl11⟩) (c11 : PySem.W.codeIn K cd11 "part_pushed" = true) (k11 : PySem.W.keepIn K (.ref f_part_pushed) = true)
    {f_pushed : Addr} {od12 an12 : Option Addr} {sl12 : Array (Option Value)} {oc12 kV12 dc12 pm12 cd12 ct12 : Value}
    (a12 : PySem.W.nsIn K mainGlobals "pushed" = some (some (.ref f_pushed))) (l12 : K.lookup f_pushed = some ⟨oc12, od12, .func (PySem.W.fnOf "pushed" "pushed" (defArgs S_pushed) (defBody S_pushed) (defScope S_pushed) .none kV12 dc12 pm12 an12 cd12 ct12), sl12⟩) (c12 : PySem.W.codeIn K cd12 "pushed" = true) (k12 : PySem.W.keepIn K (.ref f_pushed) = true)
    {f_is_sign : Addr} {od13 an13 : Option Addr} {sl13 : Array (Option Value)} {oc13 kV13 dc13 pm13 cd13 ct13 : Value}
    (a13 : PySem.W.nsIn K mainGlobals "is_sign" = some (some (.ref f_is_sign))) (l13 : K.lookup f_is_sign = some ⟨oc13, od13, .func (PySem.W.fnOf "is_sign" "is_sign" (defArgs S_is_sign) (defBody S_is_sign) (defScope S_is_sign) .none kV13 dc13 pm13 an13 cd13 ct13), sl13⟩) (c13 : PySem.W.codeIn K cd13 "is_sign" = true) (k13 : PySem.W.keepIn K (.ref f_is_sign) = true)
    {f_fed : Addr} {od14 an14 : Option Addr} {sl14 : Array (Option Value)} {oc14 kV14 dc14 pm14 cd14 ct14 : Value}
    (a14 : PySem.W.nsIn K mainGlobals "fed" = some (some (.ref f_fed))) (l14 : K.lookup f_fed = some ⟨oc14, od14, .func (PySem.W.fnOf "fed" "fed" (defArgs S_fed) (defBody S_fed) (defScope S_fed) .none kV14 dc14 pm14 an14 cd14 ct14), sl14⟩) (c14 : PySem.W.codeIn K cd14 "fed" = true) (k14 : PySem.W.keepIn K (.ref f_fed) = true)
    {f_is_show : Addr} {od15 an15 : Option Addr} {sl15 : Array (Option Value)} {oc15 kV15 dc15 pm15 cd15 ct15 : Value}
    (a15 : PySem.W.nsIn K mainGlobals "is_show" = some (some (.ref f_is_show))) (l15 : K.lookup f_is_show = some ⟨oc15, od15, .func (PySem.W.fnOf "is_show" "is_show" (defArgs S_is_show) (defBody S_is_show) (defScope S_is_show) .none kV15 dc15 pm15 an15 cd15 ct15), sl15⟩) (c15 : PySem.W.codeIn K cd15 "is_show" = true) (k15 : PySem.W.keepIn K (.ref f_is_show) = true)
    {f_check_shows : Addr} {od16 an16 : Option Addr} {sl16 : Array (Option Value)} {oc16 kV16 dc16 pm16 cd16 ct16 : Value}
    (a16 : PySem.W.nsIn K mainGlobals "check_shows" = some (some (.ref f_check_shows))) (l16 : K.lookup f_check_shows = some ⟨oc16, od16, .func (PySem.W.fnOf "check_shows" "check_shows" (defArgs S_check_shows) (defBody S_check_shows) (defScope S_check_shows) .none kV16 dc16 pm16 an16 cd16 ct16), sl16⟩) (c16 : PySem.W.codeIn K cd16 "check_shows" = true) (k16 : PySem.W.keepIn K (.ref f_check_shows) = true)
    {f_passes_of : Addr} {od17 an17 : Option Addr} {sl17 : Array (Option Value)} {oc17 kV17 dc17 pm17 cd17 ct17 : Value}
    (a17 : PySem.W.nsIn K mainGlobals "passes_of" = some (some (.ref f_passes_of))) (l17 : K.lookup f_passes_of = some ⟨oc17, od17, .func (PySem.W.fnOf "passes_of" "passes_of" (defArgs S_passes_of) (defBody S_passes_of) (defScope S_passes_of) .none kV17 dc17 pm17 an17 cd17 ct17), sl17⟩) (c17 : PySem.W.codeIn K cd17 "passes_of" = true) (k17 : PySem.W.keepIn K (.ref f_passes_of) = true)
    {f_passes_behind : Addr} {od18 an18 : Option Addr} {sl18 : Array (Option Value)} {oc18 kV18 dc18 pm18 cd18 ct18 : Value}
    (a18 : PySem.W.nsIn K mainGlobals "passes_behind" = some (some (.ref f_passes_behind))) (l18 : K.lookup f_passes_behind = some ⟨oc18, od18, .func (PySem.W.fnOf "passes_behind" "passes_behind" (defArgs S_passes_behind) (defBody S_passes_behind) (defScope S_passes_behind) .none kV18 dc18 pm18 an18 cd18 ct18), sl18⟩) (c18 : PySem.W.codeIn K cd18 "passes_behind" = true) (k18 : PySem.W.keepIn K (.ref f_passes_behind) = true)
    {f_is_wrong : Addr} {od19 an19 : Option Addr} {sl19 : Array (Option Value)} {oc19 kV19 dc19 pm19 cd19 ct19 : Value}
    (a19 : PySem.W.nsIn K mainGlobals "is_wrong" = some (some (.ref f_is_wrong))) (l19 : K.lookup f_is_wrong = some ⟨oc19, od19, .func (PySem.W.fnOf "is_wrong" "is_wrong" (defArgs S_is_wrong) (defBody S_is_wrong) (defScope S_is_wrong) .none kV19 dc19 pm19 an19 cd19 ct19), sl19⟩) (c19 : PySem.W.codeIn K cd19 "is_wrong" = true) (k19 : PySem.W.keepIn K (.ref f_is_wrong) = true)
    {f_are_unlike : Addr} {od20 an20 : Option Addr} {sl20 : Array (Option Value)} {oc20 kV20 dc20 pm20 cd20 ct20 : Value}
    (a20 : PySem.W.nsIn K mainGlobals "are_unlike" = some (some (.ref f_are_unlike))) (l20 : K.lookup f_are_unlike = some ⟨oc20, od20, .func (PySem.W.fnOf "are_unlike" "are_unlike" (defArgs S_are_unlike) (defBody S_are_unlike) (defScope S_are_unlike) .none kV20 dc20 pm20 an20 cd20 ct20), sl20⟩) (c20 : PySem.W.codeIn K cd20 "are_unlike" = true) (k20 : PySem.W.keepIn K (.ref f_are_unlike) = true)
    {f_first_clash : Addr} {od21 an21 : Option Addr} {sl21 : Array (Option Value)} {oc21 kV21 dc21 pm21 cd21 ct21 : Value}
    (a21 : PySem.W.nsIn K mainGlobals "first_clash" = some (some (.ref f_first_clash))) (l21 : K.lookup f_first_clash = some ⟨oc21, od21, .func (PySem.W.fnOf "first_clash" "first_clash" (defArgs S_first_clash) (defBody S_first_clash) (defScope S_first_clash) .none kV21 dc21 pm21 an21 cd21 ct21), sl21⟩) (c21 : PySem.W.codeIn K cd21 "first_clash" = true) (k21 : PySem.W.keepIn K (.ref f_first_clash) = true)
    {f_marks_of : Addr} {od22 an22 : Option Addr} {sl22 : Array (Option Value)} {oc22 kV22 dc22 pm22 cd22 ct22 : Value}
    (a22 : PySem.W.nsIn K mainGlobals "marks_of" = some (some (.ref f_marks_of))) (l22 : K.lookup f_marks_of = some ⟨oc22, od22, .func (PySem.W.fnOf "marks_of" "marks_of" (defArgs S_marks_of) (defBody S_marks_of) (defScope S_marks_of) .none kV22 dc22 pm22 an22 cd22 ct22), sl22⟩) (c22 : PySem.W.codeIn K cd22 "marks_of" = true) (k22 : PySem.W.keepIn K (.ref f_marks_of) = true)
    {f_smallest_of : Addr} {od23 an23 : Option Addr} {sl23 : Array (Option Value)} {oc23 kV23 dc23 pm23 cd23 ct23 : Value}
    (a23 : PySem.W.nsIn K mainGlobals "smallest_of" = some (some (.ref f_smallest_of))) (l23 : K.lookup f_smallest_of = some ⟨oc23, od23, .func (PySem.W.fnOf "smallest_of" "smallest_of" (defArgs S_smallest_of) (defBody S_smallest_of) (defScope S_smallest_of) .none kV23 dc23 pm23 an23 cd23 ct23), sl23⟩) (c23 : PySem.W.codeIn K cd23 "smallest_of" = true) (k23 : PySem.W.keepIn K (.ref f_smallest_of) = true)
    {f_smallest_behind : Addr} {od24 an24 : Option Addr} {sl24 : Array (Option Value)} {oc24 kV24 dc24 pm24 cd24 ct24 : Value}
    (a24 : PySem.W.nsIn K mainGlobals "smallest_behind" = some (some (.ref f_smallest_behind))) (l24 : K.lookup f_smallest_behind = some ⟨oc24, od24, .func (PySem.W.fnOf "smallest_behind" "smallest_behind" (defArgs S_smallest_behind) (defBody S_smallest_behind) (defScope S_smallest_behind) .none kV24 dc24 pm24 an24 cd24 ct24), sl24⟩) (c24 : PySem.W.codeIn K cd24 "smallest_behind" = true) (k24 : PySem.W.keepIn K (.ref f_smallest_behind) = true)
    {f_are_places : Addr} {od25 an25 : Option Addr} {sl25 : Array (Option Value)} {oc25 kV25 dc25 pm25 cd25 ct25 : Value}
    (a25 : PySem.W.nsIn K mainGlobals "are_places" = some (some (.ref f_are_places))) (l25 : K.lookup f_are_places = some ⟨oc25, od25, .func (PySem.W.fnOf "are_places" "are_places" (defArgs S_are_places) (defBody S_are_places) (defScope S_are_places) .none kV25 dc25 pm25 an25 cd25 ct25), sl25⟩) (c25 : PySem.W.codeIn K cd25 "are_places" = true) (k25 : PySem.W.keepIn K (.ref f_are_places) = true)
    {f_is_bar : Addr} {od26 an26 : Option Addr} {sl26 : Array (Option Value)} {oc26 kV26 dc26 pm26 cd26 ct26 : Value}
    (a26 : PySem.W.nsIn K mainGlobals "is_bar" = some (some (.ref f_is_bar))) (l26 : K.lookup f_is_bar = some ⟨oc26, od26, .func (PySem.W.fnOf "is_bar" "is_bar" (defArgs S_is_bar) (defBody S_is_bar) (defScope S_is_bar) .none kV26 dc26 pm26 an26 cd26 ct26), sl26⟩) (c26 : PySem.W.codeIn K cd26 "is_bar" = true) (k26 : PySem.W.keepIn K (.ref f_is_bar) = true)
    {f_does : Addr} {od27 an27 : Option Addr} {sl27 : Array (Option Value)} {oc27 kV27 dc27 pm27 cd27 ct27 : Value}
    (a27 : PySem.W.nsIn K mainGlobals "does" = some (some (.ref f_does))) (l27 : K.lookup f_does = some ⟨oc27, od27, .func (PySem.W.fnOf "does" "does" (defArgs S_does) (defBody S_does) (defScope S_does) .none kV27 dc27 pm27 an27 cd27 ct27), sl27⟩) (c27 : PySem.W.codeIn K cd27 "does" = true) (k27 : PySem.W.keepIn K (.ref f_does) = true)
    {f_tells_wheel : Addr} {od28 an28 : Option Addr} {sl28 : Array (Option Value)} {oc28 kV28 dc28 pm28 cd28 ct28 : Value}
    (a28 : PySem.W.nsIn K mainGlobals "tells_wheel" = some (some (.ref f_tells_wheel))) (l28 : K.lookup f_tells_wheel = some ⟨oc28, od28, .func (PySem.W.fnOf "tells_wheel" "tells_wheel" (defArgs S_tells_wheel) (defBody S_tells_wheel) (defScope S_tells_wheel) .none kV28 dc28 pm28 an28 cd28 ct28), sl28⟩) (c28 : PySem.W.codeIn K cd28 "tells_wheel" = true) (k28 : PySem.W.keepIn K (.ref f_tells_wheel) = true)
    {f_tells_none : Addr} {od29 an29 : Option Addr} {sl29 : Array (Option Value)} {oc29 kV29 dc29 pm29 cd29 ct29 : Value}
    (a29 : PySem.W.nsIn K mainGlobals "tells_none" = some (some (.ref f_tells_none))) (l29 : K.lookup f_tells_none = some ⟨oc29, od29, .func (PySem.W.fnOf "tells_none" "tells_none" (defArgs S_tells_none) (defBody S_tells_none) (defScope S_tells_none) .none kV29 dc29 pm29 an29 cd29 ct29), sl29⟩) (c29 : PySem.W.codeIn K cd29 "tells_none" = true) (k29 : PySem.W.keepIn K (.ref f_tells_none) = true)
    {f_is_right : Addr} {od30 an30 : Option Addr} {sl30 : Array (Option Value)} {oc30 kV30 dc30 pm30 cd30 ct30 : Value}
    (a30 : PySem.W.nsIn K mainGlobals "is_right" = some (some (.ref f_is_right))) (l30 : K.lookup f_is_right = some ⟨oc30, od30, .func (PySem.W.fnOf "is_right" "is_right" (defArgs S_is_right) (defBody S_is_right) (defScope S_is_right) .none kV30 dc30 pm30 an30 cd30 ct30), sl30⟩) (c30 : PySem.W.codeIn K cd30 "is_right" = true) (k30 : PySem.W.keepIn K (.ref f_is_right) = true)
    {f_is_smallest_behind : Addr} {od31 an31 : Option Addr} {sl31 : Array (Option Value)} {oc31 kV31 dc31 pm31 cd31 ct31 : Value}
    (a31 : PySem.W.nsIn K mainGlobals "is_smallest_behind" = some (some (.ref f_is_smallest_behind))) (l31 : K.lookup f_is_smallest_behind = some ⟨oc31, od31, .func (PySem.W.fnOf "is_smallest_behind" "is_smallest_behind" (defArgs S_is_smallest_behind) (defBody S_is_smallest_behind) (defScope S_is_smallest_behind) .none kV31 dc31 pm31 an31 cd31 ct31), sl31⟩) (c31 : PySem.W.codeIn K cd31 "is_smallest_behind" = true) (k31 : PySem.W.keepIn K (.ref f_is_smallest_behind) = true)
    {f__law_draws : Addr} {od32 an32 : Option Addr} {sl32 : Array (Option Value)} {oc32 kV32 dc32 pm32 cd32 ct32 : Value}
    (a32 : PySem.W.nsIn K mainGlobals "_law_draws" = some (some (.ref f__law_draws))) (l32 : K.lookup f__law_draws = some ⟨oc32, od32, .func (PySem.W.fnOf "_law_draws" "_law_draws" (defArgs S__law_draws) (defBody S__law_draws) (defScope S__law_draws) .none kV32 dc32 pm32 an32 cd32 ct32), sl32⟩) (c32 : PySem.W.codeIn K cd32 "_law_draws" = true) (k32 : PySem.W.keepIn K (.ref f__law_draws) = true)
    {f__law_next : Addr} {od33 an33 : Option Addr} {sl33 : Array (Option Value)} {oc33 kV33 dc33 pm33 cd33 ct33 : Value}
    (a33 : PySem.W.nsIn K mainGlobals "_law_next" = some (some (.ref f__law_next))) (l33 : K.lookup f__law_next = some ⟨oc33, od33, .func (PySem.W.fnOf "_law_next" "_law_next" (defArgs S__law_next) (defBody S__law_next) (defScope S__law_next) .none kV33 dc33 pm33 an33 cd33 ct33), sl33⟩) (c33 : PySem.W.codeIn K cd33 "_law_next" = true) (k33 : PySem.W.keepIn K (.ref f__law_next) = true)
    {f__law_whole : Addr} {od34 an34 : Option Addr} {sl34 : Array (Option Value)} {oc34 kV34 dc34 pm34 cd34 ct34 : Value}
    (a34 : PySem.W.nsIn K mainGlobals "_law_whole" = some (some (.ref f__law_whole))) (l34 : K.lookup f__law_whole = some ⟨oc34, od34, .func (PySem.W.fnOf "_law_whole" "_law_whole" (defArgs S__law_whole) (defBody S__law_whole) (defScope S__law_whole) .none kV34 dc34 pm34 an34 cd34 ct34), sl34⟩) (c34 : PySem.W.codeIn K cd34 "_law_whole" = true) (k34 : PySem.W.keepIn K (.ref f__law_whole) = true)
    {f__law_runs : Addr} {od35 an35 : Option Addr} {sl35 : Array (Option Value)} {oc35 kV35 dc35 pm35 cd35 ct35 : Value}
    (a35 : PySem.W.nsIn K mainGlobals "_law_runs" = some (some (.ref f__law_runs))) (l35 : K.lookup f__law_runs = some ⟨oc35, od35, .func (PySem.W.fnOf "_law_runs" "_law_runs" (defArgs S__law_runs) (defBody S__law_runs) (defScope S__law_runs) .none kV35 dc35 pm35 an35 cd35 ct35), sl35⟩) (c35 : PySem.W.codeIn K cd35 "_law_runs" = true) (k35 : PySem.W.keepIn K (.ref f__law_runs) = true)
    {f__law_train : Addr} {od36 an36 : Option Addr} {sl36 : Array (Option Value)} {oc36 kV36 dc36 pm36 cd36 ct36 : Value}
    (a36 : PySem.W.nsIn K mainGlobals "_law_train" = some (some (.ref f__law_train))) (l36 : K.lookup f__law_train = some ⟨oc36, od36, .func (PySem.W.fnOf "_law_train" "_law_train" (defArgs S__law_train) (defBody S__law_train) (defScope S__law_train) .none kV36 dc36 pm36 an36 cd36 ct36), sl36⟩) (c36 : PySem.W.codeIn K cd36 "_law_train" = true) (k36 : PySem.W.keepIn K (.ref f__law_train) = true)
    {f__law_stand : Addr} {od37 an37 : Option Addr} {sl37 : Array (Option Value)} {oc37 kV37 dc37 pm37 cd37 ct37 : Value}
    (a37 : PySem.W.nsIn K mainGlobals "_law_stand" = some (some (.ref f__law_stand))) (l37 : K.lookup f__law_stand = some ⟨oc37, od37, .func (PySem.W.fnOf "_law_stand" "_law_stand" (defArgs S__law_stand) (defBody S__law_stand) (defScope S__law_stand) .none kV37 dc37 pm37 an37 cd37 ct37), sl37⟩) (c37 : PySem.W.codeIn K cd37 "_law_stand" = true) (k37 : PySem.W.keepIn K (.ref f__law_stand) = true)
    {f__law_part_pushed : Addr} {od38 an38 : Option Addr} {sl38 : Array (Option Value)} {oc38 kV38 dc38 pm38 cd38 ct38 : Value}
    (a38 : PySem.W.nsIn K mainGlobals "_law_part_pushed" = some (some (.ref f__law_part_pushed))) (l38 : K.lookup f__law_part_pushed = some ⟨oc38, od38, .func (PySem.W.fnOf "_law_part_pushed" "_law_part_pushed" (defArgs S__law_part_pushed) (defBody S__law_part_pushed) (defScope S__law_part_pushed) .none kV38 dc38 pm38 an38 cd38 ct38), sl38⟩) (c38 : PySem.W.codeIn K cd38 "_law_part_pushed" = true) (k38 : PySem.W.keepIn K (.ref f__law_part_pushed) = true)
    {f__law_given : Addr} {od39 an39 : Option Addr} {sl39 : Array (Option Value)} {oc39 kV39 dc39 pm39 cd39 ct39 : Value}
    (a39 : PySem.W.nsIn K mainGlobals "_law_given" = some (some (.ref f__law_given))) (l39 : K.lookup f__law_given = some ⟨oc39, od39, .func (PySem.W.fnOf "_law_given" "_law_given" (defArgs S__law_given) (defBody S__law_given) (defScope S__law_given) .none kV39 dc39 pm39 an39 cd39 ct39), sl39⟩) (c39 : PySem.W.codeIn K cd39 "_law_given" = true) (k39 : PySem.W.keepIn K (.ref f__law_given) = true)
    {f__law_spots : Addr} {od40 an40 : Option Addr} {sl40 : Array (Option Value)} {oc40 kV40 dc40 pm40 cd40 ct40 : Value}
    (a40 : PySem.W.nsIn K mainGlobals "_law_spots" = some (some (.ref f__law_spots))) (l40 : K.lookup f__law_spots = some ⟨oc40, od40, .func (PySem.W.fnOf "_law_spots" "_law_spots" (defArgs S__law_spots) (defBody S__law_spots) (defScope S__law_spots) .none kV40 dc40 pm40 an40 cd40 ct40), sl40⟩) (c40 : PySem.W.codeIn K cd40 "_law_spots" = true) (k40 : PySem.W.keepIn K (.ref f__law_spots) = true)
    {f__law_shows_behind : Addr} {od41 an41 : Option Addr} {sl41 : Array (Option Value)} {oc41 kV41 dc41 pm41 cd41 ct41 : Value}
    (a41 : PySem.W.nsIn K mainGlobals "_law_shows_behind" = some (some (.ref f__law_shows_behind))) (l41 : K.lookup f__law_shows_behind = some ⟨oc41, od41, .func (PySem.W.fnOf "_law_shows_behind" "_law_shows_behind" (defArgs S__law_shows_behind) (defBody S__law_shows_behind) (defScope S__law_shows_behind) .none kV41 dc41 pm41 an41 cd41 ct41), sl41⟩) (c41 : PySem.W.codeIn K cd41 "_law_shows_behind" = true) (k41 : PySem.W.keepIn K (.ref f__law_shows_behind) = true)
    {f__law_unlike : Addr} {od42 an42 : Option Addr} {sl42 : Array (Option Value)} {oc42 kV42 dc42 pm42 cd42 ct42 : Value}
    (a42 : PySem.W.nsIn K mainGlobals "_law_unlike" = some (some (.ref f__law_unlike))) (l42 : K.lookup f__law_unlike = some ⟨oc42, od42, .func (PySem.W.fnOf "_law_unlike" "_law_unlike" (defArgs S__law_unlike) (defBody S__law_unlike) (defScope S__law_unlike) .none kV42 dc42 pm42 an42 cd42 ct42), sl42⟩) (c42 : PySem.W.codeIn K cd42 "_law_unlike" = true) (k42 : PySem.W.keepIn K (.ref f__law_unlike) = true)
    {f__law_wrong : Addr} {od43 an43 : Option Addr} {sl43 : Array (Option Value)} {oc43 kV43 dc43 pm43 cd43 ct43 : Value}
    (a43 : PySem.W.nsIn K mainGlobals "_law_wrong" = some (some (.ref f__law_wrong))) (l43 : K.lookup f__law_wrong = some ⟨oc43, od43, .func (PySem.W.fnOf "_law_wrong" "_law_wrong" (defArgs S__law_wrong) (defBody S__law_wrong) (defScope S__law_wrong) .none kV43 dc43 pm43 an43 cd43 ct43), sl43⟩) (c43 : PySem.W.codeIn K cd43 "_law_wrong" = true) (k43 : PySem.W.keepIn K (.ref f__law_wrong) = true)
    {f__law_due : Addr} {od44 an44 : Option Addr} {sl44 : Array (Option Value)} {oc44 kV44 dc44 pm44 cd44 ct44 : Value}
    (a44 : PySem.W.nsIn K mainGlobals "_law_due" = some (some (.ref f__law_due))) (l44 : K.lookup f__law_due = some ⟨oc44, od44, .func (PySem.W.fnOf "_law_due" "_law_due" (defArgs S__law_due) (defBody S__law_due) (defScope S__law_due) .none kV44 dc44 pm44 an44 cd44 ct44), sl44⟩) (c44 : PySem.W.codeIn K cd44 "_law_due" = true) (k44 : PySem.W.keepIn K (.ref f__law_due) = true)
    {f__law_two : Addr} {od45 an45 : Option Addr} {sl45 : Array (Option Value)} {oc45 kV45 dc45 pm45 cd45 ct45 : Value}
    (a45 : PySem.W.nsIn K mainGlobals "_law_two" = some (some (.ref f__law_two))) (l45 : K.lookup f__law_two = some ⟨oc45, od45, .func (PySem.W.fnOf "_law_two" "_law_two" (defArgs S__law_two) (defBody S__law_two) (defScope S__law_two) .none kV45 dc45 pm45 an45 cd45 ct45), sl45⟩) (c45 : PySem.W.codeIn K cd45 "_law_two" = true) (k45 : PySem.W.keepIn K (.ref f__law_two) = true)
    {f__law_marks : Addr} {od46 an46 : Option Addr} {sl46 : Array (Option Value)} {oc46 kV46 dc46 pm46 cd46 ct46 : Value}
    (a46 : PySem.W.nsIn K mainGlobals "_law_marks" = some (some (.ref f__law_marks))) (l46 : K.lookup f__law_marks = some ⟨oc46, od46, .func (PySem.W.fnOf "_law_marks" "_law_marks" (defArgs S__law_marks) (defBody S__law_marks) (defScope S__law_marks) .none kV46 dc46 pm46 an46 cd46 ct46), sl46⟩) (c46 : PySem.W.codeIn K cd46 "_law_marks" = true) (k46 : PySem.W.keepIn K (.ref f__law_marks) = true)
    {f__law_does : Addr} {od47 an47 : Option Addr} {sl47 : Array (Option Value)} {oc47 kV47 dc47 pm47 cd47 ct47 : Value}
    (a47 : PySem.W.nsIn K mainGlobals "_law_does" = some (some (.ref f__law_does))) (l47 : K.lookup f__law_does = some ⟨oc47, od47, .func (PySem.W.fnOf "_law_does" "_law_does" (defArgs S__law_does) (defBody S__law_does) (defScope S__law_does) .none kV47 dc47 pm47 an47 cd47 ct47), sl47⟩) (c47 : PySem.W.codeIn K cd47 "_law_does" = true) (k47 : PySem.W.keepIn K (.ref f__law_does) = true)
    {f__law_judged : Addr} {od48 an48 : Option Addr} {sl48 : Array (Option Value)} {oc48 kV48 dc48 pm48 cd48 ct48 : Value}
    (a48 : PySem.W.nsIn K mainGlobals "_law_judged" = some (some (.ref f__law_judged))) (l48 : K.lookup f__law_judged = some ⟨oc48, od48, .func (PySem.W.fnOf "_law_judged" "_law_judged" (defArgs S__law_judged) (defBody S__law_judged) (defScope S__law_judged) .none kV48 dc48 pm48 an48 cd48 ct48), sl48⟩) (c48 : PySem.W.codeIn K cd48 "_law_judged" = true) (k48 : PySem.W.keepIn K (.ref f__law_judged) = true)
    {f__law_pairs : Addr} {od49 an49 : Option Addr} {sl49 : Array (Option Value)} {oc49 kV49 dc49 pm49 cd49 ct49 : Value}
    (a49 : PySem.W.nsIn K mainGlobals "_law_pairs" = some (some (.ref f__law_pairs))) (l49 : K.lookup f__law_pairs = some ⟨oc49, od49, .func (PySem.W.fnOf "_law_pairs" "_law_pairs" (defArgs S__law_pairs) (defBody S__law_pairs) (defScope S__law_pairs) .none kV49 dc49 pm49 an49 cd49 ct49), sl49⟩) (c49 : PySem.W.codeIn K cd49 "_law_pairs" = true) (k49 : PySem.W.keepIn K (.ref f__law_pairs) = true)
    {f__law_made : Addr} {od50 an50 : Option Addr} {sl50 : Array (Option Value)} {oc50 kV50 dc50 pm50 cd50 ct50 : Value}
    (a50 : PySem.W.nsIn K mainGlobals "_law_made" = some (some (.ref f__law_made))) (l50 : K.lookup f__law_made = some ⟨oc50, od50, .func (PySem.W.fnOf "_law_made" "_law_made" (defArgs S__law_made) (defBody S__law_made) (defScope S__law_made) .none kV50 dc50 pm50 an50 cd50 ct50), sl50⟩) (c50 : PySem.W.codeIn K cd50 "_law_made" = true) (k50 : PySem.W.keepIn K (.ref f__law_made) = true)
    {f__law_mended : Addr} {od51 an51 : Option Addr} {sl51 : Array (Option Value)} {oc51 kV51 dc51 pm51 cd51 ct51 : Value}
    (a51 : PySem.W.nsIn K mainGlobals "_law_mended" = some (some (.ref f__law_mended))) (l51 : K.lookup f__law_mended = some ⟨oc51, od51, .func (PySem.W.fnOf "_law_mended" "_law_mended" (defArgs S__law_mended) (defBody S__law_mended) (defScope S__law_mended) .none kV51 dc51 pm51 an51 cd51 ct51), sl51⟩) (c51 : PySem.W.codeIn K cd51 "_law_mended" = true) (k51 : PySem.W.keepIn K (.ref f__law_mended) = true)
    {f__law_odd : Addr} {od52 an52 : Option Addr} {sl52 : Array (Option Value)} {oc52 kV52 dc52 pm52 cd52 ct52 : Value}
    (a52 : PySem.W.nsIn K mainGlobals "_law_odd" = some (some (.ref f__law_odd))) (l52 : K.lookup f__law_odd = some ⟨oc52, od52, .func (PySem.W.fnOf "_law_odd" "_law_odd" (defArgs S__law_odd) (defBody S__law_odd) (defScope S__law_odd) .none kV52 dc52 pm52 an52 cd52 ct52), sl52⟩) (c52 : PySem.W.codeIn K cd52 "_law_odd" = true) (k52 : PySem.W.keepIn K (.ref f__law_odd) = true)
    {f__law_bent_wheel : Addr} {od53 an53 : Option Addr} {sl53 : Array (Option Value)} {oc53 kV53 dc53 pm53 cd53 ct53 : Value}
    (a53 : PySem.W.nsIn K mainGlobals "_law_bent_wheel" = some (some (.ref f__law_bent_wheel))) (l53 : K.lookup f__law_bent_wheel = some ⟨oc53, od53, .func (PySem.W.fnOf "_law_bent_wheel" "_law_bent_wheel" (defArgs S__law_bent_wheel) (defBody S__law_bent_wheel) (defScope S__law_bent_wheel) .none kV53 dc53 pm53 an53 cd53 ct53), sl53⟩) (c53 : PySem.W.codeIn K cd53 "_law_bent_wheel" = true) (k53 : PySem.W.keepIn K (.ref f__law_bent_wheel) = true)
    {f__law_bent : Addr} {od54 an54 : Option Addr} {sl54 : Array (Option Value)} {oc54 kV54 dc54 pm54 cd54 ct54 : Value}
    (a54 : PySem.W.nsIn K mainGlobals "_law_bent" = some (some (.ref f__law_bent))) (l54 : K.lookup f__law_bent = some ⟨oc54, od54, .func (PySem.W.fnOf "_law_bent" "_law_bent" (defArgs S__law_bent) (defBody S__law_bent) (defScope S__law_bent) .none kV54 dc54 pm54 an54 cd54 ct54), sl54⟩) (c54 : PySem.W.codeIn K cd54 "_law_bent" = true) (k54 : PySem.W.keepIn K (.ref f__law_bent) = true)
    {f_law : Addr} {od55 an55 : Option Addr} {sl55 : Array (Option Value)} {oc55 kV55 dc55 pm55 cd55 ct55 : Value}
    (a55 : PySem.W.nsIn K mainGlobals "law" = some (some (.ref f_law))) (l55 : K.lookup f_law = some ⟨oc55, od55, .func (PySem.W.fnOf "law" "law" (defArgs S_law) (defBody S_law) (defScope S_law) .none kV55 dc55 pm55 an55 cd55 ct55), sl55⟩) (c55 : PySem.W.codeIn K cd55 "law" = true) (k55 : PySem.W.keepIn K (.ref f_law) = true)
    (z0 : PySem.W.nsIn K mainGlobals "isinstance" = some none)
    (z1 : PySem.W.nsIn K mainGlobals "int" = some none)
    (z2 : PySem.W.nsIn K mainGlobals "bool" = some none)
    (z3 : PySem.W.nsIn K mainGlobals "tuple" = some none)
    (z4 : PySem.W.nsIn K mainGlobals "len" = some none)
    (z5 : PySem.W.nsIn K mainGlobals "list" = some none)
    (z6 : PySem.W.nsIn K mainGlobals "zip" = some none)
    (z7 : PySem.W.nsIn K mainGlobals "max" = some none)
    (z8 : PySem.W.nsIn K mainGlobals "range" = some none)
    (z9 : PySem.W.nsIn K mainGlobals "all" = some none)
    (z10 : PySem.W.nsIn K mainGlobals "enumerate" = some none)
    (z11 : PySem.W.nsIn K mainGlobals "sorted" = some none)
    (z12 : PySem.W.nsIn K mainGlobals "set" = some none)
    (z13 : PySem.W.nsIn K mainGlobals "str" = some none)
    (tb_fed : tabOkB K cd14 = true)
    (tb_check_shows : tabOkB K cd16 = true)
    (tb_tells_wheel : tabOkB K cd28 = true)
    : LawAtX l w K 63 "_law_script" mg fa ["fed", "check_shows", "tells_wheel"] := by
  have e := hfa.symm.trans (PySem.W.mg_of X G a55)
  cases e
  have F_is_whole := fun_mk (st := S_is_whole) l0 c0 k0
  have F_are_marks := fun_mk (st := S_are_marks) l1 c1 k1
  have F_is_part := fun_mk (st := S_is_part) l2 c2 k2
  have F_check_train := fun_mk (st := S_check_train) l3 c3 k3
  have F_place_count := fun_mk (st := S_place_count) l4 c4 k4
  have F_is_stand := fun_mk (st := S_is_stand) l5 c5 k5
  have F_check_stand := fun_mk (st := S_check_stand) l6 c6 k6
  have F_is_way := fun_mk (st := S_is_way) l7 c7 k7
  have F_wheel_pushed := fun_mk (st := S_wheel_pushed) l8 c8 k8
  have F_rocker_pushed := fun_mk (st := S_rocker_pushed) l9 c9 k9
  have F_spring_pushed := fun_mk (st := S_spring_pushed) l10 c10 k10
  have F_part_pushed := fun_mk (st := S_part_pushed) l11 c11 k11
  have F_pushed := fun_mk (st := S_pushed) l12 c12 k12
  have F_is_sign := fun_mk (st := S_is_sign) l13 c13 k13
  have F_fed := fun_mk (st := S_fed) l14 c14 k14
  have F_is_show := fun_mk (st := S_is_show) l15 c15 k15
  have F_check_shows := fun_mk (st := S_check_shows) l16 c16 k16
  have F_passes_of := fun_mk (st := S_passes_of) l17 c17 k17
  have F_passes_behind := fun_mk (st := S_passes_behind) l18 c18 k18
  have F_is_wrong := fun_mk (st := S_is_wrong) l19 c19 k19
  have F_are_unlike := fun_mk (st := S_are_unlike) l20 c20 k20
  have F_first_clash := fun_mk (st := S_first_clash) l21 c21 k21
  have F_marks_of := fun_mk (st := S_marks_of) l22 c22 k22
  have F_smallest_of := fun_mk (st := S_smallest_of) l23 c23 k23
  have F_smallest_behind := fun_mk (st := S_smallest_behind) l24 c24 k24
  have F_are_places := fun_mk (st := S_are_places) l25 c25 k25
  have F_is_bar := fun_mk (st := S_is_bar) l26 c26 k26
  have F_does := fun_mk (st := S_does) l27 c27 k27
  have F_tells_wheel := fun_mk (st := S_tells_wheel) l28 c28 k28
  have F_tells_none := fun_mk (st := S_tells_none) l29 c29 k29
  have F_is_right := fun_mk (st := S_is_right) l30 c30 k30
  have F_is_smallest_behind := fun_mk (st := S_is_smallest_behind) l31 c31 k31
  have F__law_draws := fun_mk (st := S__law_draws) l32 c32 k32
  have F__law_next := fun_mk (st := S__law_next) l33 c33 k33
  have F__law_whole := fun_mk (st := S__law_whole) l34 c34 k34
  have F__law_runs := fun_mk (st := S__law_runs) l35 c35 k35
  have F__law_train := fun_mk (st := S__law_train) l36 c36 k36
  have F__law_stand := fun_mk (st := S__law_stand) l37 c37 k37
  have F__law_part_pushed := fun_mk (st := S__law_part_pushed) l38 c38 k38
  have F__law_given := fun_mk (st := S__law_given) l39 c39 k39
  have F__law_spots := fun_mk (st := S__law_spots) l40 c40 k40
  have F__law_shows_behind := fun_mk (st := S__law_shows_behind) l41 c41 k41
  have F__law_unlike := fun_mk (st := S__law_unlike) l42 c42 k42
  have F__law_wrong := fun_mk (st := S__law_wrong) l43 c43 k43
  have F__law_due := fun_mk (st := S__law_due) l44 c44 k44
  have F__law_two := fun_mk (st := S__law_two) l45 c45 k45
  have F__law_marks := fun_mk (st := S__law_marks) l46 c46 k46
  have F__law_does := fun_mk (st := S__law_does) l47 c47 k47
  have F__law_judged := fun_mk (st := S__law_judged) l48 c48 k48
  have F__law_pairs := fun_mk (st := S__law_pairs) l49 c49 k49
  have F__law_made := fun_mk (st := S__law_made) l50 c50 k50
  have F__law_mended := fun_mk (st := S__law_mended) l51 c51 k51
  have F__law_odd := fun_mk (st := S__law_odd) l52 c52 k52
  have F__law_bent_wheel := fun_mk (st := S__law_bent_wheel) l53 c53 k53
  have F__law_bent := fun_mk (st := S__law_bent) l54 c54 k54
  have F_law := fun_mk (st := S_law) l55 c55 k55
  have m_isinstance := PySem.W.mg_none_of X G z0
  have m_int := PySem.W.mg_none_of X G z1
  have m_bool := PySem.W.mg_none_of X G z2
  have m_tuple := PySem.W.mg_none_of X G z3
  have m_len := PySem.W.mg_none_of X G z4
  have m_list := PySem.W.mg_none_of X G z5
  have m_zip := PySem.W.mg_none_of X G z6
  have m_max := PySem.W.mg_none_of X G z7
  have m_range := PySem.W.mg_none_of X G z8
  have m_all := PySem.W.mg_none_of X G z9
  have m_enumerate := PySem.W.mg_none_of X G z10
  have m_sorted := PySem.W.mg_none_of X G z11
  have m_set := PySem.W.mg_none_of X G z12
  have m_str := PySem.W.mg_none_of X G z13
  have b_is_whole := F_is_whole.binds (ps := ["thing"]) fun _ _ _ _ _ _ us hl => match us, hl with | [_], _ => rfl
  have g_is_whole := PySem.W.mg_of X G a0
  have b_are_marks := F_are_marks.binds (ps := ["thing", "teeth"]) fun _ _ _ _ _ _ us hl => match us, hl with | [_, _], _ => rfl
  have g_are_marks := PySem.W.mg_of X G a1
  have b_is_part := F_is_part.binds (ps := ["thing"]) fun _ _ _ _ _ _ us hl => match us, hl with | [_], _ => rfl
  have g_is_part := PySem.W.mg_of X G a2
  have b_check_train := F_check_train.binds (ps := ["train"]) fun _ _ _ _ _ _ us hl => match us, hl with | [_], _ => rfl
  have g_check_train := PySem.W.mg_of X G a3
  have b_place_count := F_place_count.binds (ps := ["part"]) fun _ _ _ _ _ _ us hl => match us, hl with | [_], _ => rfl
  have g_place_count := PySem.W.mg_of X G a4
  have b_is_stand := F_is_stand.binds (ps := ["train", "thing"]) fun _ _ _ _ _ _ us hl => match us, hl with | [_, _], _ => rfl
  have g_is_stand := PySem.W.mg_of X G a5
  have b_check_stand := F_check_stand.binds (ps := ["train", "stand"]) fun _ _ _ _ _ _ us hl => match us, hl with | [_, _], _ => rfl
  have g_check_stand := PySem.W.mg_of X G a6
  have b_is_way := F_is_way.binds (ps := ["thing"]) fun _ _ _ _ _ _ us hl => match us, hl with | [_], _ => rfl
  have g_is_way := PySem.W.mg_of X G a7
  have b_wheel_pushed := F_wheel_pushed.binds (ps := ["part", "place", "way"]) fun _ _ _ _ _ _ us hl => match us, hl with | [_, _, _], _ => rfl
  have g_wheel_pushed := PySem.W.mg_of X G a8
  have b_rocker_pushed := F_rocker_pushed.binds (ps := ["place", "way"]) fun _ _ _ _ _ _ us hl => match us, hl with | [_, _], _ => rfl
  have g_rocker_pushed := PySem.W.mg_of X G a9
  have b_spring_pushed := F_spring_pushed.binds (ps := ["part", "place", "way"]) fun _ _ _ _ _ _ us hl => match us, hl with | [_, _, _], _ => rfl
  have g_spring_pushed := PySem.W.mg_of X G a10
  have b_part_pushed := F_part_pushed.binds (ps := ["part", "place", "way"]) fun _ _ _ _ _ _ us hl => match us, hl with | [_, _, _], _ => rfl
  have g_part_pushed := PySem.W.mg_of X G a11
  have b_pushed := F_pushed.binds (ps := ["train", "stand", "i", "way"]) fun _ _ _ _ _ _ us hl => match us, hl with | [_, _, _, _], _ => rfl
  have g_pushed := PySem.W.mg_of X G a12
  have b_is_sign := F_is_sign.binds (ps := ["thing"]) fun _ _ _ _ _ _ us hl => match us, hl with | [_], _ => rfl
  have g_is_sign := PySem.W.mg_of X G a13
  have b_fed := F_fed.binds (ps := ["train", "stand", "signs"]) fun _ _ _ _ _ _ us hl => match us, hl with | [_, _, _], _ => rfl
  have g_fed := PySem.W.mg_of X G a14
  have b_is_show := F_is_show.binds (ps := ["thing"]) fun _ _ _ _ _ _ us hl => match us, hl with | [_], _ => rfl
  have g_is_show := PySem.W.mg_of X G a15
  have b_check_shows := F_check_shows.binds (ps := ["shows"]) fun _ _ _ _ _ _ us hl => match us, hl with | [_], _ => rfl
  have g_check_shows := PySem.W.mg_of X G a16
  have b_passes_of := F_passes_of.binds (ps := ["comes", "shows"]) fun _ _ _ _ _ _ us hl => match us, hl with | [_, _], _ => rfl
  have g_passes_of := PySem.W.mg_of X G a17
  have b_passes_behind := F_passes_behind.binds (ps := ["train", "stand", "shows"]) fun _ _ _ _ _ _ us hl => match us, hl with | [_, _, _], _ => rfl
  have g_passes_behind := PySem.W.mg_of X G a18
  have b_is_wrong := F_is_wrong.binds (ps := ["push"]) fun _ _ _ _ _ _ us hl => match us, hl with | [_], _ => rfl
  have g_is_wrong := PySem.W.mg_of X G a19
  have b_are_unlike := F_are_unlike.binds (ps := ["one", "other"]) fun _ _ _ _ _ _ us hl => match us, hl with | [_, _], _ => rfl
  have g_are_unlike := PySem.W.mg_of X G a20
  have b_first_clash := F_first_clash.binds (ps := ["passes", "teeth"]) fun _ _ _ _ _ _ us hl => match us, hl with | [_, _], _ => rfl
  have g_first_clash := PySem.W.mg_of X G a21
  have b_marks_of := F_marks_of.binds (ps := ["passes", "teeth"]) fun _ _ _ _ _ _ us hl => match us, hl with | [_, _], _ => rfl
  have g_marks_of := PySem.W.mg_of X G a22
  have b_smallest_of := F_smallest_of.binds (ps := ["passes"]) fun _ _ _ _ _ _ us hl => match us, hl with | [_], _ => rfl
  have g_smallest_of := PySem.W.mg_of X G a23
  have b_smallest_behind := F_smallest_behind.binds (ps := ["train", "stand", "shows"]) fun _ _ _ _ _ _ us hl => match us, hl with | [_, _, _], _ => rfl
  have g_smallest_behind := PySem.W.mg_of X G a24
  have b_are_places := F_are_places.binds (ps := ["j", "k", "passes"]) fun _ _ _ _ _ _ us hl => match us, hl with | [_, _, _], _ => rfl
  have g_are_places := PySem.W.mg_of X G a25
  have b_is_bar := F_is_bar.binds (ps := ["passes", "teeth", "thing"]) fun _ _ _ _ _ _ us hl => match us, hl with | [_, _, _], _ => rfl
  have g_is_bar := PySem.W.mg_of X G a26
  have b_does := F_does.binds (ps := ["passes", "teeth", "marks"]) fun _ _ _ _ _ _ us hl => match us, hl with | [_, _, _], _ => rfl
  have g_does := PySem.W.mg_of X G a27
  have b_tells_wheel := F_tells_wheel.binds (ps := ["passes", "teeth", "marks", "bars"]) fun _ _ _ _ _ _ us hl => match us, hl with | [_, _, _, _], _ => rfl
  have g_tells_wheel := PySem.W.mg_of X G a28
  have b_tells_none := F_tells_none.binds (ps := ["passes", "j", "k"]) fun _ _ _ _ _ _ us hl => match us, hl with | [_, _, _], _ => rfl
  have g_tells_none := PySem.W.mg_of X G a29
  have b_is_right := F_is_right.binds (ps := ["passes", "thing"]) fun _ _ _ _ _ _ us hl => match us, hl with | [_, _], _ => rfl
  have g_is_right := PySem.W.mg_of X G a30
  have b_is_smallest_behind := F_is_smallest_behind.binds (ps := ["train", "stand", "shows", "thing"]) fun _ _ _ _ _ _ us hl => match us, hl with | [_, _, _, _], _ => rfl
  have g_is_smallest_behind := PySem.W.mg_of X G a31
  have b__law_draws := F__law_draws.binds (ps := ["_law_cell"]) fun _ _ _ _ _ _ us hl => match us, hl with | [_], _ => rfl
  have g__law_draws := PySem.W.mg_of X G a32
  have b__law_next := F__law_next.binds (ps := ["_law_draws_here"]) fun _ _ _ _ _ _ us hl => match us, hl with | [_], _ => rfl
  have g__law_next := PySem.W.mg_of X G a33
  have b__law_whole := F__law_whole.binds (ps := ["_law_found"]) fun _ _ _ _ _ _ us hl => match us, hl with | [_], _ => rfl
  have g__law_whole := PySem.W.mg_of X G a34
  have b__law_runs := F__law_runs.binds (ps := ["_law_draws_here", "_law_many"]) fun _ _ _ _ _ _ us hl => match us, hl with | [_, _], _ => rfl
  have g__law_runs := PySem.W.mg_of X G a35
  have b__law_train := F__law_train.binds (ps := ["_law_draws_here"]) fun _ _ _ _ _ _ us hl => match us, hl with | [_], _ => rfl
  have g__law_train := PySem.W.mg_of X G a36
  have b__law_stand := F__law_stand.binds (ps := ["_law_draws_here", "_law_train_here"]) fun _ _ _ _ _ _ us hl => match us, hl with | [_, _], _ => rfl
  have g__law_stand := PySem.W.mg_of X G a37
  have b__law_part_pushed := F__law_part_pushed.binds (ps := ["_law_part", "_law_place", "_law_way"]) fun _ _ _ _ _ _ us hl => match us, hl with | [_, _, _], _ => rfl
  have g__law_part_pushed := PySem.W.mg_of X G a38
  have b__law_given := F__law_given.binds (ps := ["_law_train_here", "_law_stand_here", "_law_pushes"]) fun _ _ _ _ _ _ us hl => match us, hl with | [_, _, _], _ => rfl
  have g__law_given := PySem.W.mg_of X G a39
  have b__law_spots := F__law_spots.binds (ps := ["_law_ways", "_law_teeth"]) fun _ _ _ _ _ _ us hl => match us, hl with | [_, _], _ => rfl
  have g__law_spots := PySem.W.mg_of X G a40
  have b__law_shows_behind := F__law_shows_behind.binds (ps := ["_law_draws_here", "_law_train_here", "_law_stand_here", "_law_most"]) fun _ _ _ _ _ _ us hl => match us, hl with | [_, _, _, _], _ => rfl
  have g__law_shows_behind := PySem.W.mg_of X G a41
  have b__law_unlike := F__law_unlike.binds (ps := ["_law_spots_here", "_law_shows"]) fun _ _ _ _ _ _ us hl => match us, hl with | [_, _], _ => rfl
  have g__law_unlike := PySem.W.mg_of X G a42
  have b__law_wrong := F__law_wrong.binds (ps := ["_law_ways", "_law_shows"]) fun _ _ _ _ _ _ us hl => match us, hl with | [_, _], _ => rfl
  have g__law_wrong := PySem.W.mg_of X G a43
  have b__law_due := F__law_due.binds (ps := ["_law_ways", "_law_shows"]) fun _ _ _ _ _ _ us hl => match us, hl with | [_, _], _ => rfl
  have g__law_due := PySem.W.mg_of X G a44
  have b__law_two := F__law_two.binds (ps := ["_law_ways", "_law_shows", "_law_teeth", "_law_two_here"]) fun _ _ _ _ _ _ us hl => match us, hl with | [_, _, _, _], _ => rfl
  have g__law_two := PySem.W.mg_of X G a45
  have b__law_marks := F__law_marks.binds (ps := ["_law_teeth", "_law_marks_here"]) fun _ _ _ _ _ _ us hl => match us, hl with | [_, _], _ => rfl
  have g__law_marks := PySem.W.mg_of X G a46
  have b__law_does := F__law_does.binds (ps := ["_law_ways", "_law_shows", "_law_teeth", "_law_marks_here"]) fun _ _ _ _ _ _ us hl => match us, hl with | [_, _, _, _], _ => rfl
  have g__law_does := PySem.W.mg_of X G a47
  have b__law_judged := F__law_judged.binds (ps := ["_law_ways", "_law_shows", "_law_thing"]) fun _ _ _ _ _ _ us hl => match us, hl with | [_, _, _], _ => rfl
  have g__law_judged := PySem.W.mg_of X G a48
  have b__law_pairs := F__law_pairs.binds (ps := ["_law_ways", "_law_shows", "_law_teeth"]) fun _ _ _ _ _ _ us hl => match us, hl with | [_, _, _], _ => rfl
  have g__law_pairs := PySem.W.mg_of X G a49
  have b__law_made := F__law_made.binds (ps := ["_law_draws_here", "_law_ways", "_law_shows"]) fun _ _ _ _ _ _ us hl => match us, hl with | [_, _, _], _ => rfl
  have g__law_made := PySem.W.mg_of X G a50
  have b__law_mended := F__law_mended.binds (ps := ["_law_draws_here", "_law_ways", "_law_shows"]) fun _ _ _ _ _ _ us hl => match us, hl with | [_, _, _], _ => rfl
  have g__law_mended := PySem.W.mg_of X G a51
  have b__law_odd := F__law_odd.binds (ps := ["_law_draws_here"]) fun _ _ _ _ _ _ us hl => match us, hl with | [_], _ => rfl
  have g__law_odd := PySem.W.mg_of X G a52
  have b__law_bent_wheel := F__law_bent_wheel.binds (ps := ["_law_draws_here", "_law_ways", "_law_shows", "_law_thing"]) fun _ _ _ _ _ _ us hl => match us, hl with | [_, _, _, _], _ => rfl
  have g__law_bent_wheel := PySem.W.mg_of X G a53
  have b__law_bent := F__law_bent.binds (ps := ["_law_draws_here", "_law_ways", "_law_shows", "_law_thing"]) fun _ _ _ _ _ _ us hl => match us, hl with | [_, _, _, _], _ => rfl
  have g__law_bent := PySem.W.mg_of X G a54
  refine ⟨PySem.W.fnOf "law" "law" (defArgs S_law) (defBody S_law) (defScope S_law) .none kV55 dc55 pm55 an55 cd55 ct55, [("fed", cd14), ("check_shows", cd16), ("tells_wheel", cd28)], sp_law K [tabOf K cd14, tabOf K cd16, tabOf K cd28], fun p hp => ?_, fun s v => .of_eq rfl, fun H a ns hlen hT hS => ?_, fun base _ _ hTB => ?_⟩
  · rcases List.mem_cons.mp hp with rfl | hp
    · exact ⟨by simp, f_fed, _, _, _, _, g_fed, l14, rfl, tb_fed⟩
    rcases List.mem_cons.mp hp with rfl | hp
    · exact ⟨by simp, f_check_shows, _, _, _, _, g_check_shows, l16, rfl, tb_check_shows⟩
    rcases List.mem_cons.mp hp with rfl | hp
    · exact ⟨by simp, f_tells_wheel, _, _, _, _, g_tells_wheel, l28, rfl, tb_tells_wheel⟩
    cases hp
  · exact ⟨a, ns, rfl, hS, hlen, fun P hP => (by
      obtain ⟨p, hp, rfl⟩ := List.mem_map.mp (show P ∈ ([("fed", cd14), ("check_shows", cd16), ("tells_wheel", cd28)] : List (Str × Value)).map (fun p => tabOf K p.2) from hP)
      exact hT p hp), fun H2 s2 => ⟨rfl, s2⟩⟩
  have G_is_whole : FnOk l.prog w K mg base CX0 1 _ _ ["thing"] (sp_is_whole K) := ok_is_whole F_is_whole  m_isinstance m_int m_bool   
  have G_are_marks : FnOk l.prog w K mg base CX0 2 _ _ ["thing", "teeth"] (sp_are_marks K) := ok_are_marks F_are_marks F_is_whole b_is_whole g_is_whole G_is_whole m_isinstance m_tuple   
  have G_is_part : FnOk l.prog w K mg base CX0 3 _ _ ["thing"] (sp_is_part K) := ok_is_part F_is_part F_is_whole b_is_whole g_is_whole G_is_whole F_are_marks b_are_marks g_are_marks G_are_marks m_isinstance m_tuple m_len   
  have G_check_train : FnOk l.prog w K mg base CX0 4 _ _ ["train"] (sp_check_train K) := ok_check_train F_check_train F_is_part b_is_part g_is_part G_is_part m_isinstance m_list m_len   
  have G_place_count : FnOk l.prog w K mg base CX0 1 _ _ ["part"] (sp_place_count K) := ok_place_count F_place_count     
  have G_is_stand : FnOk l.prog w K mg base CX0 2 _ _ ["train", "thing"] (sp_is_stand K) := ok_is_stand F_is_stand F_place_count b_place_count g_place_count G_place_count F_is_whole b_is_whole g_is_whole G_is_whole m_zip m_isinstance m_tuple m_len   
  have G_check_stand : FnOk l.prog w K mg base CX0 5 _ _ ["train", "stand"] (sp_check_stand K) := ok_check_stand F_check_stand F_is_stand b_is_stand g_is_stand G_is_stand F_check_train b_check_train g_check_train G_check_train    
  have G_is_way : FnOk l.prog w K mg base CX0 2 _ _ ["thing"] (sp_is_way K) := ok_is_way F_is_way F_is_whole b_is_whole g_is_whole G_is_whole    
  have G_wheel_pushed : FnOk l.prog w K mg base CX0 1 _ _ ["part", "place", "way"] (sp_wheel_pushed K) := ok_wheel_pushed F_wheel_pushed     
  have G_rocker_pushed : FnOk l.prog w K mg base CX0 1 _ _ ["place", "way"] (sp_rocker_pushed K) := ok_rocker_pushed F_rocker_pushed     
  have G_spring_pushed : FnOk l.prog w K mg base CX0 1 _ _ ["part", "place", "way"] (sp_spring_pushed K) := ok_spring_pushed F_spring_pushed  m_max   
  have G_part_pushed : FnOk l.prog w K mg base CX0 2 _ _ ["part", "place", "way"] (sp_part_pushed K) := ok_part_pushed F_part_pushed F_spring_pushed b_spring_pushed g_spring_pushed G_spring_pushed F_rocker_pushed b_rocker_pushed g_rocker_pushed G_rocker_pushed F_wheel_pushed b_wheel_pushed g_wheel_pushed G_wheel_pushed    
  have G_pushed : FnOk l.prog w K mg base CX0 3 _ _ ["train", "stand", "i", "way"] (sp_pushed K) := ok_pushed F_pushed F_part_pushed b_part_pushed g_part_pushed G_part_pushed m_list m_range m_len m_tuple   
  have G_is_sign : FnOk l.prog w K mg base CX0 2 _ _ ["thing"] (sp_is_sign K) := ok_is_sign F_is_sign F_is_whole b_is_whole g_is_whole G_is_whole    
  have G_fed : FnOk l.prog w K mg base CX0 7 _ _ ["train", "stand", "signs"] (sp_fed K [tabOf K cd14, tabOf K cd16, tabOf K cd28]) := ok_fed F_fed F_pushed b_pushed g_pushed G_pushed F_is_sign b_is_sign g_is_sign G_is_sign F_check_stand b_check_stand g_check_stand G_check_stand m_isinstance m_list m_all    (hTB ("fed", cd14) (by simp)) (by obtain ⟨_, _, _, _, h, _⟩ := tab_inv tb_fed; exact h) (by simp)
  have G_is_show : FnOk l.prog w K mg base CX0 3 _ _ ["thing"] (sp_is_show K) := ok_is_show F_is_show F_is_whole b_is_whole g_is_whole G_is_whole F_is_way b_is_way g_is_way G_is_way m_isinstance m_tuple m_len   
  have G_check_shows : FnOk l.prog w K mg base CX0 5 _ _ ["shows"] (sp_check_shows K [tabOf K cd14, tabOf K cd16, tabOf K cd28]) := ok_check_shows F_check_shows F_is_show b_is_show g_is_show G_is_show m_isinstance m_list m_all    (hTB ("check_shows", cd16) (by simp)) (by obtain ⟨_, _, _, _, h, _⟩ := tab_inv tb_check_shows; exact h) (by simp)
  have G_passes_of : FnOk l.prog w K mg base CX0 1 _ _ ["comes", "shows"] (sp_passes_of K) := ok_passes_of F_passes_of  m_zip   
  have G_passes_behind : FnOk l.prog w K mg base CX0 8 _ _ ["train", "stand", "shows"] (sp_passes_behind K [tabOf K cd14, tabOf K cd16, tabOf K cd28]) := ok_passes_behind F_passes_behind F_passes_of b_passes_of g_passes_of G_passes_of F_fed b_fed g_fed G_fed F_check_shows b_check_shows g_check_shows G_check_shows F_check_stand b_check_stand g_check_stand G_check_stand    
  have G_is_wrong : FnOk l.prog w K mg base CX0 1 _ _ ["push"] (sp_is_wrong K) := ok_is_wrong F_is_wrong     
  have G_are_unlike : FnOk l.prog w K mg base CX0 1 _ _ ["one", "other"] (sp_are_unlike K) := ok_are_unlike F_are_unlike     
  have G_first_clash : FnOk l.prog w K mg base CX0 2 _ _ ["passes", "teeth"] (sp_first_clash K) := ok_first_clash F_first_clash F_are_unlike b_are_unlike g_are_unlike G_are_unlike m_enumerate   
  have G_marks_of : FnOk l.prog w K mg base CX0 1 _ _ ["passes", "teeth"] (sp_marks_of K) := ok_marks_of F_marks_of  m_tuple m_sorted   
  have G_smallest_of : FnOk l.prog w K mg base CX0 3 _ _ ["passes"] (sp_smallest_of K) := ok_smallest_of F_smallest_of F_marks_of b_marks_of g_marks_of G_marks_of F_first_clash b_first_clash g_first_clash G_first_clash F_is_wrong b_is_wrong g_is_wrong G_is_wrong m_enumerate m_range m_max m_len   
  have G_smallest_behind : FnOk l.prog w K mg base CX0 9 _ _ ["train", "stand", "shows"] (sp_smallest_behind K [tabOf K cd14, tabOf K cd16, tabOf K cd28]) := ok_smallest_behind F_smallest_behind F_passes_behind b_passes_behind g_passes_behind G_passes_behind F_smallest_of b_smallest_of g_smallest_of G_smallest_of    
  have G_are_places : FnOk l.prog w K mg base CX0 2 _ _ ["j", "k", "passes"] (sp_are_places K) := ok_are_places F_are_places F_is_whole b_is_whole g_is_whole G_is_whole m_len   
  have G_is_bar : FnOk l.prog w K mg base CX0 3 _ _ ["passes", "teeth", "thing"] (sp_is_bar K) := ok_is_bar F_is_bar F_are_unlike b_are_unlike g_are_unlike G_are_unlike F_are_places b_are_places g_are_places G_are_places m_isinstance m_tuple m_len   
  have G_does : FnOk l.prog w K mg base CX0 1 _ _ ["passes", "teeth", "marks"] (sp_does K) := ok_does F_does  m_set   
  have G_tells_wheel : FnOk l.prog w K mg base CX0 5 _ _ ["passes", "teeth", "marks", "bars"] (sp_tells_wheel K [tabOf K cd14, tabOf K cd16, tabOf K cd28]) := ok_tells_wheel F_tells_wheel F_does b_does g_does G_does F_are_marks b_are_marks g_are_marks G_are_marks F_is_bar b_is_bar g_is_bar G_is_bar F_is_whole b_is_whole g_is_whole G_is_whole m_all m_isinstance m_list m_len m_enumerate    (hTB ("tells_wheel", cd28) (by simp)) (by obtain ⟨_, _, _, _, h, _⟩ := tab_inv tb_tells_wheel; exact h) (by simp)
  have G_tells_none : FnOk l.prog w K mg base CX0 3 _ _ ["passes", "j", "k"] (sp_tells_none K) := ok_tells_none F_tells_none F_are_unlike b_are_unlike g_are_unlike G_are_unlike F_is_wrong b_is_wrong g_is_wrong G_is_wrong F_are_places b_are_places g_are_places G_are_places    
  have G_is_right : FnOk l.prog w K mg base CX0 6 _ _ ["passes", "thing"] (sp_is_right K [tabOf K cd14, tabOf K cd16, tabOf K cd28]) := ok_is_right F_is_right F_tells_none b_tells_none g_tells_none G_tells_none F_tells_wheel b_tells_wheel g_tells_wheel G_tells_wheel m_isinstance m_tuple m_len   
  have G_is_smallest_behind : FnOk l.prog w K mg base CX0 9 _ _ ["train", "stand", "shows", "thing"] (sp_is_smallest_behind K [tabOf K cd14, tabOf K cd16, tabOf K cd28]) := ok_is_smallest_behind F_is_smallest_behind F_passes_behind b_passes_behind g_passes_behind G_passes_behind F_is_right b_is_right g_is_right G_is_right    
  have G__law_draws : FnOk l.prog w K mg base CX0 1 _ _ ["_law_cell"] (sp__law_draws K) := ok__law_draws F__law_draws     
  have G__law_next : FnOk l.prog w K mg base CX0 1 _ _ ["_law_draws_here"] (sp__law_next K) := ok__law_next F__law_next     
  have G__law_whole : FnOk l.prog w K mg base CX0 1 _ _ ["_law_found"] (sp__law_whole K) := ok__law_whole F__law_whole  m_isinstance m_int m_bool   
  have G__law_runs : FnOk l.prog w K mg base CX0 2 _ _ ["_law_draws_here", "_law_many"] (sp__law_runs K) := ok__law_runs F__law_runs F__law_next b__law_next g__law_next G__law_next m_len   
  have G__law_train : FnOk l.prog w K mg base CX0 2 _ _ ["_law_draws_here"] (sp__law_train K) := ok__law_train F__law_train F__law_next b__law_next g__law_next G__law_next m_range m_tuple m_max   
  have G__law_stand : FnOk l.prog w K mg base CX0 2 _ _ ["_law_draws_here", "_law_train_here"] (sp__law_stand K) := ok__law_stand F__law_stand F__law_next b__law_next g__law_next G__law_next m_int   
  have G__law_part_pushed : FnOk l.prog w K mg base CX0 1 _ _ ["_law_part", "_law_place", "_law_way"] (sp__law_part_pushed K) := ok__law_part_pushed F__law_part_pushed  m_max m_int   
  have G__law_given : FnOk l.prog w K mg base CX0 2 _ _ ["_law_train_here", "_law_stand_here", "_law_pushes"] (sp__law_given K) := ok__law_given F__law_given F__law_part_pushed b__law_part_pushed g__law_part_pushed G__law_part_pushed m_list m_enumerate   
  have G__law_spots : FnOk l.prog w K mg base CX0 1 _ _ ["_law_ways", "_law_teeth"] (sp__law_spots K) := ok__law_spots F__law_spots  m_int   
  have G__law_shows_behind : FnOk l.prog w K mg base CX0 3 _ _ ["_law_draws_here", "_law_train_here", "_law_stand_here", "_law_most"] (sp__law_shows_behind K) := ok__law_shows_behind F__law_shows_behind F__law_next b__law_next g__law_next G__law_next F__law_spots b__law_spots g__law_spots G__law_spots F__law_given b__law_given g__law_given G__law_given F__law_runs b__law_runs g__law_runs G__law_runs m_zip m_range m_int m_len m_max   
  have G__law_unlike : FnOk l.prog w K mg base CX0 1 _ _ ["_law_spots_here", "_law_shows"] (sp__law_unlike K) := ok__law_unlike F__law_unlike  m_zip   
  have G__law_wrong : FnOk l.prog w K mg base CX0 1 _ _ ["_law_ways", "_law_shows"] (sp__law_wrong K) := ok__law_wrong F__law_wrong  m_enumerate   
  have G__law_due : FnOk l.prog w K mg base CX0 2 _ _ ["_law_ways", "_law_shows"] (sp__law_due K) := ok__law_due F__law_due F__law_spots b__law_spots g__law_spots G__law_spots F__law_unlike b__law_unlike g__law_unlike G__law_unlike F__law_wrong b__law_wrong g__law_wrong G__law_wrong m_tuple m_sorted m_len m_set m_enumerate   
  have G__law_two : FnOk l.prog w K mg base CX0 2 _ _ ["_law_ways", "_law_shows", "_law_teeth", "_law_two_here"] (sp__law_two K) := ok__law_two F__law_two F__law_spots b__law_spots g__law_spots G__law_spots F__law_whole b__law_whole g__law_whole G__law_whole m_isinstance m_tuple m_len   
  have G__law_marks : FnOk l.prog w K mg base CX0 2 _ _ ["_law_teeth", "_law_marks_here"] (sp__law_marks K) := ok__law_marks F__law_marks F__law_whole b__law_whole g__law_whole G__law_whole m_list m_sorted m_isinstance m_tuple m_all m_set   
  have G__law_does : FnOk l.prog w K mg base CX0 2 _ _ ["_law_ways", "_law_shows", "_law_teeth", "_law_marks_here"] (sp__law_does K) := ok__law_does F__law_does F__law_spots b__law_spots g__law_spots G__law_spots m_zip m_int   
  have G__law_judged : FnOk l.prog w K mg base CX0 3 _ _ ["_law_ways", "_law_shows", "_law_thing"] (sp__law_judged K) := ok__law_judged F__law_judged F__law_two b__law_two g__law_two G__law_two F__law_does b__law_does g__law_does G__law_does F__law_marks b__law_marks g__law_marks G__law_marks F__law_whole b__law_whole g__law_whole G__law_whole F__law_wrong b__law_wrong g__law_wrong G__law_wrong m_all m_len m_isinstance m_tuple m_str m_list m_enumerate   
  have G__law_pairs : FnOk l.prog w K mg base CX0 2 _ _ ["_law_ways", "_law_shows", "_law_teeth"] (sp__law_pairs K) := ok__law_pairs F__law_pairs F__law_spots b__law_spots g__law_spots G__law_spots m_range m_len m_int   
  have G__law_made : FnOk l.prog w K mg base CX0 3 _ _ ["_law_draws_here", "_law_ways", "_law_shows"] (sp__law_made K) := ok__law_made F__law_made F__law_next b__law_next g__law_next G__law_next F__law_pairs b__law_pairs g__law_pairs G__law_pairs F__law_wrong b__law_wrong g__law_wrong G__law_wrong F__law_due b__law_due g__law_due G__law_due m_range m_len   
  have G__law_mended : FnOk l.prog w K mg base CX0 2 _ _ ["_law_draws_here", "_law_ways", "_law_shows"] (sp__law_mended K) := ok__law_mended F__law_mended F__law_next b__law_next g__law_next G__law_next m_zip m_int   
  have G__law_odd : FnOk l.prog w K mg base CX0 2 _ _ ["_law_draws_here"] (sp__law_odd K) := ok__law_odd F__law_odd F__law_next b__law_next g__law_next G__law_next    
  have G__law_bent_wheel : FnOk l.prog w K mg base CX0 2 _ _ ["_law_draws_here", "_law_ways", "_law_shows", "_law_thing"] (sp__law_bent_wheel K) := ok__law_bent_wheel F__law_bent_wheel F__law_next b__law_next g__law_next G__law_next m_max m_len m_tuple m_list m_sorted m_set m_int   
  have G__law_bent : FnOk l.prog w K mg base CX0 3 _ _ ["_law_draws_here", "_law_ways", "_law_shows", "_law_thing"] (sp__law_bent K) := ok__law_bent F__law_bent F__law_bent_wheel b__law_bent_wheel g__law_bent_wheel G__law_bent_wheel F__law_next b__law_next g__law_next G__law_next F__law_odd b__law_odd g__law_odd G__law_odd m_len m_list   
  exact fun z H ws vs Q E e b r h => FnG.goes (k := 10) (ok_law F_law F_is_smallest_behind b_is_smallest_behind g_is_smallest_behind G_is_smallest_behind F__law_judged b__law_judged g__law_judged G__law_judged F__law_mended b__law_mended g__law_mended G__law_mended F__law_made b__law_made g__law_made G__law_made F_smallest_behind b_smallest_behind g_smallest_behind G_smallest_behind F__law_bent b__law_bent g__law_bent G__law_bent F__law_shows_behind b__law_shows_behind g__law_shows_behind G__law_shows_behind F__law_next b__law_next g__law_next G__law_next F__law_stand b__law_stand g__law_stand G__law_stand F__law_train b__law_train g__law_train G__law_train F__law_draws b__law_draws g__law_draws G__law_draws m_max m_enumerate m_str m_int m_range m_isinstance m_bool   ) callerA rfl ⟨rfl, by decide, by decide⟩ [] z H ⟨ws, []⟩ ws vs Q E e b r h
end My
open PySem PySem.W PyProof.Rows
set_option maxHeartbeats 0 in
theorem PySem.Challenge.cw_clicktrain_k66_wheels_behind_trains_look_holds : PySem.Challenge.rw_clicktrain_k66_wheels_behind_trains_look.Holds := by
  w_on; o_law; k_head; (case hw => w_witness2)
  k_fill
  refine Ct.walk_ofX (l := PySem.Challenge.rw_clicktrain_k66_wheels_behind_trains_look) (n := 63) (x := "_law_script") (defs := ["fed", "check_shows", "tells_wheel"]) rfl (by decide) rfl (by decide +kernel) (fun w h Y => PySem.W.kIn_of Y) ?F
  case F =>
    intro w mg fa h KX G hmg
    refine' My.all_mk KX G hmg ?a0 ?l0 ?c0 ?k0 ?a1 ?l1 ?c1 ?k1 ?a2 ?l2 ?c2 ?k2 ?a3 ?l3 ?c3 ?k3 ?a4 ?l4 ?c4 ?k4 ?a5 ?l5 ?c5 ?k5 ?a6 ?l6 ?c6 ?k6 ?a7 ?l7 ?c7 ?k7 ?a8 ?l8 ?c8 ?k8 ?a9 ?l9 ?c9 ?k9 ?a10 ?l10 ?c10 ?k10 ?a11 ?l11 ?c11 ?k11 ?a12 ?l12 ?c12 ?k12 ?a13 ?l13 ?c13 ?k13 ?a14 ?l14 ?c14 ?k14 ?a15 ?l15 ?c15 ?k15 ?a16 ?l16 ?c16 ?k16 ?a17 ?l17 ?c17 ?k17 ?a18 ?l18 ?c18 ?k18 ?a19 ?l19 ?c19 ?k19 ?a20 ?l20 ?c20 ?k20 ?a21 ?l21 ?c21 ?k21 ?a22 ?l22 ?c22 ?k22 ?a23 ?l23 ?c23 ?k23 ?a24 ?l24 ?c24 ?k24 ?a25 ?l25 ?c25 ?k25 ?a26 ?l26 ?c26 ?k26 ?a27 ?l27 ?c27 ?k27 ?a28 ?l28 ?c28 ?k28 ?a29 ?l29 ?c29 ?k29 ?a30 ?l30 ?c30 ?k30 ?a31 ?l31 ?c31 ?k31 ?a32 ?l32 ?c32 ?k32 ?a33 ?l33 ?c33 ?k33 ?a34 ?l34 ?c34 ?k34 ?a35 ?l35 ?c35 ?k35 ?a36 ?l36 ?c36 ?k36 ?a37 ?l37 ?c37 ?k37 ?a38 ?l38 ?c38 ?k38 ?a39 ?l39 ?c39 ?k39 ?a40 ?l40 ?c40 ?k40 ?a41 ?l41 ?c41 ?k41 ?a42 ?l42 ?c42 ?k42 ?a43 ?l43 ?c43 ?k43 ?a44 ?l44 ?c44 ?k44 ?a45 ?l45 ?c45 ?k45 ?a46 ?l46 ?c46 ?k46 ?a47 ?l47 ?c47 ?k47 ?a48 ?l48 ?c48 ?k48 ?a49 ?l49 ?c49 ?k49 ?a50 ?l50 ?c50 ?k50 ?a51 ?l51 ?c51 ?k51 ?a52 ?l52 ?c52 ?k52 ?a53 ?l53 ?c53 ?k53 ?a54 ?l54 ?c54 ?k54 ?a55 ?l55 ?c55 ?k55 ?z0 ?z1 ?z2 ?z3 ?z4 ?z5 ?z6 ?z7 ?z8 ?z9 ?z10 ?z11 ?z12 ?z13 ?tb_fed ?tb_check_shows ?tb_tells_wheel
    (case a0 => k_is)
    (case l0 => k_is)
    (case c0 => k_is)
    (case k0 => k_is)
    (case a1 => k_is)
    (case l1 => k_is)
    (case c1 => k_is)
    (case k1 => k_is)
    (case a2 => k_is)
    (case l2 => k_is)
    (case c2 => k_is)
    (case k2 => k_is)
    (case a3 => k_is)
    (case l3 => k_is)
    (case c3 => k_is)
    (case k3 => k_is)
    (case a4 => k_is)
    (case l4 => k_is)
    (case c4 => k_is)
    (case k4 => k_is)
    (case a5 => k_is)
    (case l5 => k_is)
    (case c5 => k_is)
    (case k5 => k_is)
    (case a6 => k_is)
    (case l6 => k_is)
    (case c6 => k_is)
    (case k6 => k_is)
    (case a7 => k_is)
    (case l7 => k_is)
    (case c7 => k_is)
    (case k7 => k_is)
    (case a8 => k_is)
    (case l8 => k_is)
    (case c8 => k_is)
    (case k8 => k_is)
    (case a9 => k_is)
    (case l9 => k_is)
    (case c9 => k_is)
    (case k9 => k_is)
    (case a10 => k_is)
    (case l10 => k_is)
    (case c10 => k_is)
    (case k10 => k_is)
    (case a11 => k_is)
    (case l11 => k_is)
    (case c11 => k_is)
    (case k11 => k_is)
    (case a12 => k_is)
    (case l12 => k_is)
    (case c12 => k_is)
    (case k12 => k_is)
    (case a13 => k_is)
    (case l13 => k_is)
    (case c13 => k_is)
    (case k13 => k_is)
    (case a14 => k_is)
    (case l14 => k_is)
    (case c14 => k_is)
    (case k14 => k_is)
    (case a15 => k_is)
    (case l15 => k_is)
    (case c15 => k_is)
    (case k15 => k_is)
    (case a16 => k_is)
    (case l16 => k_is)
    (case c16 => k_is)
    (case k16 => k_is)
    (case a17 => k_is)
    (case l17 => k_is)
    (case c17 => k_is)
    (case k17 => k_is)
    (case a18 => k_is)
    (case l18 => k_is)
    (case c18 => k_is)
    (case k18 => k_is)
    (case a19 => k_is)
    (case l19 => k_is)
    (case c19 => k_is)
    (case k19 => k_is)
    (case a20 => k_is)
    (case l20 => k_is)
    (case c20 => k_is)
    (case k20 => k_is)
    (case a21 => k_is)
    (case l21 => k_is)
    (case c21 => k_is)
    (case k21 => k_is)
    (case a22 => k_is)
    (case l22 => k_is)
    (case c22 => k_is)
    (case k22 => k_is)
    (case a23 => k_is)
    (case l23 => k_is)
    (case c23 => k_is)
    (case k23 => k_is)
    (case a24 => k_is)
    (case l24 => k_is)
    (case c24 => k_is)
    (case k24 => k_is)
    (case a25 => k_is)
    (case l25 => k_is)
    (case c25 => k_is)
    (case k25 => k_is)
    (case a26 => k_is)
    (case l26 => k_is)
    (case c26 => k_is)
    (case k26 => k_is)
    (case a27 => k_is)
    (case l27 => k_is)
    (case c27 => k_is)
    (case k27 => k_is)
    (case a28 => k_is)
    (case l28 => k_is)
    (case c28 => k_is)
    (case k28 => k_is)
    (case a29 => k_is)
    (case l29 => k_is)
    (case c29 => k_is)
    (case k29 => k_is)
    (case a30 => k_is)
    (case l30 => k_is)
    (case c30 => k_is)
    (case k30 => k_is)
    (case a31 => k_is)
    (case l31 => k_is)
    (case c31 => k_is)
    (case k31 => k_is)
    (case a32 => k_is)
    (case l32 => k_is)
    (case c32 => k_is)
    (case k32 => k_is)
    (case a33 => k_is)
    (case l33 => k_is)
    (case c33 => k_is)
    (case k33 => k_is)
    (case a34 => k_is)
    (case l34 => k_is)
    (case c34 => k_is)
    (case k34 => k_is)
    (case a35 => k_is)
    (case l35 => k_is)
    (case c35 => k_is)
    (case k35 => k_is)
    (case a36 => k_is)
    (case l36 => k_is)
    (case c36 => k_is)
    (case k36 => k_is)
    (case a37 => k_is)
    (case l37 => k_is)
    (case c37 => k_is)
    (case k37 => k_is)
    (case a38 => k_is)
    (case l38 => k_is)
    (case c38 => k_is)
    (case k38 => k_is)
    (case a39 => k_is)
    (case l39 => k_is)
    (case c39 => k_is)
    (case k39 => k_is)
    (case a40 => k_is)
    (case l40 => k_is)
    (case c40 => k_is)
    (case k40 => k_is)
    (case a41 => k_is)
    (case l41 => k_is)
    (case c41 => k_is)
    (case k41 => k_is)
    (case a42 => k_is)
    (case l42 => k_is)
    (case c42 => k_is)
    (case k42 => k_is)
    (case a43 => k_is)
    (case l43 => k_is)
    (case c43 => k_is)
    (case k43 => k_is)
    (case a44 => k_is)
    (case l44 => k_is)
    (case c44 => k_is)
    (case k44 => k_is)
    (case a45 => k_is)
    (case l45 => k_is)
    (case c45 => k_is)
    (case k45 => k_is)
    (case a46 => k_is)
    (case l46 => k_is)
    (case c46 => k_is)
    (case k46 => k_is)
    (case a47 => k_is)
    (case l47 => k_is)
    (case c47 => k_is)
    (case k47 => k_is)
    (case a48 => k_is)
    (case l48 => k_is)
    (case c48 => k_is)
    (case k48 => k_is)
    (case a49 => k_is)
    (case l49 => k_is)
    (case c49 => k_is)
    (case k49 => k_is)
    (case a50 => k_is)
    (case l50 => k_is)
    (case c50 => k_is)
    (case k50 => k_is)
    (case a51 => k_is)
    (case l51 => k_is)
    (case c51 => k_is)
    (case k51 => k_is)
    (case a52 => k_is)
    (case l52 => k_is)
    (case c52 => k_is)
    (case k52 => k_is)
    (case a53 => k_is)
    (case l53 => k_is)
    (case c53 => k_is)
    (case k53 => k_is)
    (case a54 => k_is)
    (case l54 => k_is)
    (case c54 => k_is)
    (case k54 => k_is)
    (case a55 => k_is)
    (case l55 => k_is)
    (case c55 => k_is)
    (case k55 => k_is)
    (case z0 => k_is)
    (case z1 => k_is)
    (case z2 => k_is)
    (case z3 => k_is)
    (case z4 => k_is)
    (case z5 => k_is)
    (case z6 => k_is)
    (case z7 => k_is)
    (case z8 => k_is)
    (case z9 => k_is)
    (case z10 => k_is)
    (case z11 => k_is)
    (case z12 => k_is)
    (case z13 => k_is)
    (case tb_fed => first | kernel_rfl | rfl)
    (case tb_check_shows => first | kernel_rfl | rfl)
    (case tb_tells_wheel => first | kernel_rfl | rfl)
