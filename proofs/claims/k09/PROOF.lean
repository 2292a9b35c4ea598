import PyProof.Rows.All
import Wide.All
import OpenK.AllK
import Wide.FinOn
import HandS.ForMost
import HandS.Wide
import HandS.IsInst
import HandS.Walk
import HandS.Star
import HandS.TupAny
import HandS.Style
import HandS.Deep
import KE.GoesNew
import HandS.SetBool
import HandS.Strs
import HandS.SortInts
import KE.SortData
import HandS.SetFor
import PySem.Challenge.RW_clicktrain_k09_whole_wheels_go_by_net_pu
set_option Elab.async false
set_option linter.all false
set_option maxRecDepth 100000
set_option maxHeartbeats 4000000
namespace Ct
open PySem PySem.Spec PyProof.Rows L2
/-! walking a reading, construct by construct -/
section
variable {K : PySem.W.Frag} {H : Hp} {σ : L2.St} {D : Ends} {Q : VK} {QB : Bool → Hp → Prop} {QA : List V → Hp → Prop} {QS : L2.St → Hp → Prop}
theorem w_seq {t u : TS} (h : t { D with nx := u D } σ H) : tSeq t u D σ H := h
theorem w_join {t u : TS} (J : L2.St → Hp → Prop) (h1 : ∀ σ' H', J σ' H' → u D σ' H') (h2 : ∀ N : L2.St → Hp → Prop, (∀ σ' H', J σ' H' → N σ' H') → t { D with nx := N } σ H) : tSeq t u D σ H := h2 (u D) h1
theorem w_asg {te : TE} {g : TG} (h : te σ H fun x H1 => g x σ H1 D.nx) : tAsg te g D σ H := h
theorem w_ret {te : TE} (h : te σ H D.rt) : tRet te D σ H := h
theorem w_ifS {c : TT} {t u : TS} (h : c σ H fun b H1 => if b = true then t D σ H1 else u D σ H1) : tIfS c t u D σ H := h
theorem w_drop {te : TE} (h : te σ H fun _ H1 => D.nx σ H1) : tDrop te D σ H := h
theorem w_next (h : D.nx σ H) : tNext D σ H := h
theorem w_var {i : Nat} {v : V} (e : σ[i]? = some (some v)) (h : Q v H) : tVar i σ H Q := ⟨v, e, h⟩
theorem w_c {v : V} (h : Q v H) : tC v σ H Q := h
theorem w_op {r : R2} {ta tb : TE} (h : ta σ H fun x H1 => tb σ H1 fun y H2 => r x y H2 Q) : tOp r ta tb σ H Q := h
theorem w_chain {r r' : R2} {ta tb tc : TE} (h : ta σ H fun x H1 => tb σ H1 fun y H2 => r x y H2 fun z H3 => ∃ k, z = .bl k ∧ (if k = true then tc σ H3 fun w' H4 => r' y w' H4 Q else Q (.bl false) H3)) : tChain r r' ta tb tc σ H Q := h
theorem w_un {r : V → Hp → VK → Prop} {ta : TE} (h : ta σ H fun x H1 => r x H1 Q) : tUn r ta σ H Q := h
theorem w_test {t : TE} (h : t σ H fun x H' => ∃ k, x = .bl k ∧ QB k H') : tTest t σ H QB := h
theorem w_B {t : TE} (h : t σ H fun x H' => ∃ k, x = .bl k ∧ QB k H') : tB t σ H QB := h
theorem w_and {t u : TT} (h : t σ H fun c H1 => if c = true then u σ H1 QB else QB false H1) : tAnd t u σ H QB := h
theorem w_or {t u : TT} (h : t σ H fun c H1 => if c = true then QB true H1 else u σ H1 QB) : tOr t u σ H QB := h
theorem w_not {t : TT} (h : t σ H fun c H1 => QB (!c) H1) : tNot t σ H QB := h
theorem w_if {t : TT} {ta tb : TE} (h : t σ H fun c H1 => if c = true then ta σ H1 Q else tb σ H1 Q) : tIf t ta tb σ H Q := h
theorem w_nil (h : QA [] H) : tNil σ H QA := h
theorem w_cons {ta : TE} {tr : TA} (h : ta σ H fun x H1 => tr σ H1 fun xs H2 => QA (x :: xs) H2) : tCons ta tr σ H QA := h
theorem w_cb {r : List V → Hp → VK → Prop} {t : TA} (h : t σ H fun vs H1 => r vs H1 Q) : tCB r t σ H Q := h
theorem w_call {sp : Sp} {dvs : List V} {E : XK} {t : TA} (h : t σ H fun vs H1 => sp (vs ++ dvs) H1 Q E) : tCall sp dvs E t σ H Q := h
theorem w_name {i : Nat} {v : V} {σ' : L2.St} (e : σ.set i (some v) = σ') (h : QS σ' H) : gName i v σ H QS := by
  unfold gName
  rw [e]
  exact h
theorem w_rI {C : Int → Int → Prop} {g : Int → Int → V} {i j : Int} (c : C i j) (h : Q (g i j) H) : rI C g (.int i) (.int j) H Q := ⟨i, j, rfl, rfl, c, h⟩
theorem w_rI0 {g : Int → Int → V} {i j : Int} (h : Q (g i j) H) : rI0 g (.int i) (.int j) H Q := ⟨i, j, rfl, rfl, h⟩
theorem w_rU {g : Int → V} {i : Int} (h : Q (g i) H) : rU g (.int i) H Q := ⟨i, rfl, h⟩
theorem w_rEqI {i j : Int} (h : Q (.bl (decide (i = j))) H) : rEq (.int i) (.int j) H Q := by
  refine ⟨rfl, ?_⟩
  rw [show decide (V.int i = V.int j) = decide (i = j) from by
    by_cases e : i = j
    · subst e
      rw [decide_eq_true rfl, decide_eq_true rfl]
    · rw [decide_eq_false e, decide_eq_false fun z => e (V.int.inj z)]]
  exact h
theorem w_rNeI {i j : Int} (h : Q (.bl (!decide (i = j))) H) : rNe (.int i) (.int j) H Q := by
  refine ⟨rfl, ?_⟩
  rw [show decide (V.int i = V.int j) = decide (i = j) from by
    by_cases e : i = j
    · subst e
      rw [decide_eq_true rfl, decide_eq_true rfl]
    · rw [decide_eq_false e, decide_eq_false fun z => e (V.int.inj z)]]
  exact h
theorem w_rEqS {x y : Str} {b : Bool} (e : decide (V.str x = V.str y) = b) (h : Q (.bl b) H) : rEq (.str x) (.str y) H Q := by
  refine ⟨rfl, ?_⟩
  rw [e]
  exact h
theorem w_bl {b : Bool} {QP : Bool → Prop} (h : QP b) : ∃ k, V.bl b = .bl k ∧ QP k := ⟨b, rfl, h⟩
theorem w_in {i : Int} {QP : Int → Prop} (h : QP i) : ∃ k, V.int i = .int k ∧ QP k := ⟨i, rfl, h⟩
theorem w_ixT {p : Addr} {xs : List V} {i : Int} {v : V} (h : SqT K H p xs) (e : atI xs i = some v) (q : Q v H) : rIxT K (.ref p) (.int i) H Q := ⟨p, xs, i, v, rfl, rfl, h, e, q⟩
theorem w_ixL {p : Addr} {xs : List V} {i : Int} {v : V} (h : SqL K H p xs) (e : atI xs i = some v) (q : Q v H) : rIxL K (.ref p) (.int i) H Q := ⟨p, xs, i, v, rfl, rfl, h, e, q⟩
theorem w_tup {t : TA} (h : t σ H fun xs H1 => xs.length ≤ sizeLine ∧ ∀ p, H1 p = none → Q (.ref p) (upd H1 p (.tup xs))) : tTup t σ H Q := h
theorem w_lst {t : TA} (h : t σ H fun xs H1 => xs.length ≤ sizeLine ∧ ∀ p, H1 p = none → Q (.ref p) (upd H1 p (.lst xs))) : tLst t σ H Q := h
theorem w_bm {T : String} {r : V → List V → Hp → VK → Prop} {to : TE} {t : TA} (h : to σ H fun x H1 => tyV K T x H1 ∧ t σ H1 fun xs H2 => r x xs H2 Q) : tBM K T r to t σ H Q := h
theorem w_inT {p : Addr} {x : Int} {ns : List Int} (h : SqT K H p (ns.map V.int)) (q : Q (.bl (decide (x ∈ ns))) H) : rIn K false (.int x) (.ref p) H Q := by
  refine ⟨p, ns.map V.int, rfl, .inr h, rfl, ?_, ?_⟩
  · rw [List.all_map]
    exact List.all_eq_true.mpr fun _ _ => rfl
  · rw [if_neg Bool.false_ne_true]
    rw [show inV (.int x) (ns.map V.int) = decide (x ∈ ns) from by
      unfold inV
      rw [List.any_map]
      by_cases e : x ∈ ns
      · rw [decide_eq_true e, List.any_eq_true]
        exact ⟨x, e, by show (x == x) = true; exact beq_self_eq_true x⟩
      · rw [decide_eq_false e, List.any_eq_false]
        intro y hy
        show ¬ (y == x) = true
        intro z
        have : y = x := eq_of_beq z
        subst this
        exact e hy]
    exact q
theorem w_break (h : D.bk σ H) : tBreak D σ H := h
theorem w_cont (h : D.ct σ H) : tCont D σ H := h
theorem w_nT {A B : Prop} (h : B) : if (!true) = true then A else B := h
theorem w_nF {A B : Prop} (h : A) : if (!false) = true then A else B := h
theorem w_ite {c A B : Prop} [Decidable c] (h1 : c → A) (h2 : ¬ c → B) : if (decide c) = true then A else B := by
  by_cases h : c
  · rw [if_pos (decide_eq_true h)]
    exact h1 h
  · rw [if_neg (by rw [decide_eq_false h]; exact Bool.false_ne_true)]
    exact h2 h
theorem w_iteN {c A B : Prop} [Decidable c] (h1 : ¬ c → A) (h2 : c → B) : if (!decide c) = true then A else B := by
  by_cases h : c
  · rw [decide_eq_true h]
    exact iteF (h2 h)
  · rw [decide_eq_false h]
    exact iteT (h1 h)
theorem w_st {t : TS} {σ' : L2.St} (e : σ = σ') (h : t D σ' H) : t D σ H := by
  rw [e]
  exact h
end
/-! heaps -/
theorem same_new {H0 H : Hp} {p : Addr} {o : HO} (s : Same H0 H) (h : H0 p = none) : Same H0 (upd H p o) := fun b x e => by
  rw [upd_ne (ne_of_none e h)]
  exact s b x e
theorem same_upd {H : Hp} {p : Addr} {o : HO} (h : H p = none) : Same H (upd H p o) := same_new (Same.refl H) h
theorem Same.tup {K : PySem.W.Frag} {H H' : Hp} {a : Addr} {xs : List V} (e : Same H H') (h : SqT K H a xs) : SqT K H' a xs := by
  rcases h with (h | ⟨o, h⟩) | h
  · exact .inl (.inl (e _ _ h))
  · exact .inl (.inr ⟨o, e _ _ h⟩)
  · exact .inr h
theorem Same.new {H H' : Hp} {p : Addr} (s : Same H H') (h : H' p = none) : H p = none := s.free h
mutual
theorem dp_same {K : PySem.W.Frag} {H H' : Hp} (e : Same H H') : ∀ {v : V} {d : PyData}, Dp K H v d → Dp K H' v d
  | _, _, .non => .non
  | _, _, .bl b => .bl b
  | _, _, .int i => .int i
  | _, _, .str x => .str x
  | _, _, .lst h t => .lst (e.seq h) (dpAll_same e t)
  | _, _, .tup h t => .tup (Same.tup e h) (dpAll_same e t)
theorem dpAll_same {K : PySem.W.Frag} {H H' : Hp} (e : Same H H') : ∀ {vs : List V} {ds : List PyData}, DpAll K H vs ds → DpAll K H' vs ds
  | _, _, .nil => .nil
  | _, _, .cons h t => .cons (dp_same e h) (dpAll_same e t)
end
theorem dpAll_len {K : PySem.W.Frag} {H : Hp} : ∀ {vs : List V} {ds : List PyData}, DpAll K H vs ds → vs.length = ds.length
  | _, _, .nil => rfl
  | _, _, .cons _ t => by rw [List.length_cons, List.length_cons, dpAll_len t]
theorem dpAll_get {K : PySem.W.Frag} {H : Hp} : ∀ {vs : List V} {ds : List PyData} {i : Nat} {d : PyData}, DpAll K H vs ds → ds[i]? = some d → ∃ v, vs[i]? = some v ∧ Dp K H v d
  | _, _, _, _, .nil, e => by simp at e
  | _, _, 0, _, .cons h _, e => by
    cases (Option.some.inj e)
    exact ⟨_, rfl, h⟩
  | _, _, i + 1, _, .cons _ t, e => dpAll_get (i := i) t e
theorem dpAll_ints {K : PySem.W.Frag} {H : Hp} : ∀ (ns : List Int), DpAll K H (ns.map V.int) (ns.map PyData.int)
  | [] => .nil
  | n :: r => .cons (.int n) (dpAll_ints r)
theorem dpAll_ints_inv {K : PySem.W.Frag} {H : Hp} : ∀ {vs : List V} (ns : List Int), DpAll K H vs (ns.map PyData.int) → vs = ns.map V.int
  | _, [], .nil => rfl
  | _, n :: r, .cons (.int _) t => by rw [dpAll_ints_inv r t, List.map_cons]
theorem dpAll_app {K : PySem.W.Frag} {H : Hp} : ∀ {vs ws : List V} {ds es : List PyData}, DpAll K H vs ds → DpAll K H ws es → DpAll K H (vs ++ ws) (ds ++ es)
  | _, _, _, _, .nil, h => h
  | _, _, _, _, .cons a t, h => .cons a (dpAll_app t h)
theorem ix_at {n j : Nat} {k : Int} (e : k = (j : Int)) (h : j < n) : ixN n k = some j := by
  subst e
  unfold ixN
  rw [if_pos (Int.natCast_nonneg j), if_pos (by omega)]
  rfl
theorem cutV_map (ms : List Int) (lo hi : Option Int) : cutV (ms.map V.int) lo hi = ((ms.drop (HT.sIx ms.length 0 lo)).take (HT.sIx ms.length ms.length hi - HT.sIx ms.length 0 lo)).map V.int := by
  unfold cutV
  rw [List.length_map, List.map_take, List.map_drop]
theorem at0 {x : V} {r : List V} : atI (x :: r) 0 = some x := atI_nat (xs := x :: r) (j := 0) rfl
theorem at1 {x y : V} {r : List V} : atI (x :: y :: r) 1 = some y := atI_nat (xs := x :: y :: r) (j := 1) rfl
theorem at2 {x y z : V} {r : List V} : atI (x :: y :: z :: r) 2 = some z := atI_nat (xs := x :: y :: z :: r) (j := 2) rfl
theorem len2 {n : Nat} (h : Nat.ble n sizeLine = true) : n ≤ sizeLine := Nat.le_of_ble_eq_true h
/-! sizes of numbers -/
theorem div_ok {i j : Int} (h : 0 < j) (h2 : j < 2 ^ 250) : CDivW i j := wide_div (b := 250) h (by omega) (by decide) (by decide)
theorem mul_ok {i j : Int} (h1 : -(2 ^ 250) < i) (h2 : i < 2 ^ 250) (h3 : -(2 ^ 250) < j) (h4 : j < 2 ^ 250) : CMulW i j := wide_mul (a := 250) (b := 250) (by omega) (by omega) (by decide) (by decide) (by decide)
/-- a power whose bits are few -/
def CPowB (i j : Int) : Prop := 0 ≤ j ∧ (Builtin.Int.intBits i : Int) * j ≤ 2 ^ 27
theorem op_powB {X : Cx} : OpR X (binaryOp .Pow) (rI CPowB fun i j => .int (i ^ j.toNat)) := opI fun _ _ _ _ _ _ _ hc q => pow_int hc.1 hc.2 q
/-! loops, targets, stores -/
section
variable {K : PySem.W.Frag} {H : Hp} {σ : L2.St} {D : Ends} {Q : VK} {QA : List V → Hp → Prop} {QS : L2.St → Hp → Prop} {R : It → Hp → Prop}
def FB (J : It) (g : TG) (tb : TS) (D : Ends) (σ : L2.St) (H : Hp) : Prop := tFor (fun _ H R => R J H) g tb D σ H
theorem w_for {wi : TI} {g : TG} {tb : TS} (h : wi σ H fun J H1 => FB J g tb D σ H1) : tFor wi g tb D σ H := h
def RG1 (vs : List V) (H : Hp) (R : It → Hp → Prop) : Prop := iRng1 (fun _ H Q => Q vs H) [] H R
def RG2 (vs : List V) (H : Hp) (R : It → Hp → Prop) : Prop := iRng2 (fun _ H Q => Q vs H) [] H R
theorem w_rng1 {ta : TA} (h : ta σ H fun vs H1 => RG1 vs H1 R) : iRng1 ta σ H R := h
theorem w_rng2 {ta : TA} (h : ta σ H fun vs H1 => RG2 vs H1 R) : iRng2 ta σ H R := h
theorem w_RG1 {j : Int} (h1 : -(2 ^ 62) ≤ j) (h2 : j < 2 ^ 62) (h : R (Itr 0 j.toNat) H) : RG1 [.int j] H R := ⟨j, rfl, h1, h2, h⟩
theorem w_RG2 {i j : Int} (h1 : -(2 ^ 62) ≤ i) (h2 : i < 2 ^ 62) (h3 : -(2 ^ 62) ≤ j) (h4 : j < 2 ^ 62) (h : R (Itr i (j - i).toNat) H) : RG2 [.int i, .int j] H R := ⟨i, j, rfl, ⟨h1, h2, h3, h4⟩, h⟩
def IL (K : PySem.W.Frag) (v : V) (H : Hp) (R : It → Hp → Prop) : Prop := iList K (tC v) [] H R
def IT (K : PySem.W.Frag) (v : V) (H : Hp) (R : It → Hp → Prop) : Prop := iTup K (tC v) [] H R
theorem w_ilist {tl : TE} (h : tl σ H fun v H1 => IL K v H1 R) : iList K tl σ H R := h
theorem w_itup {tl : TE} (h : tl σ H fun v H1 => IT K v H1 R) : iTup K tl σ H R := h
theorem w_IL {a : Addr} {xs : List V} (h : SqL K H a xs) (q : R (Itl K a) H) : IL K (.ref a) H R := ⟨a, rfl, ⟨xs, h⟩, q⟩
theorem w_IT {a : Addr} {xs : List V} (h : SqT K H a xs) (q : R (Itt K a) H) : IT K (.ref a) H R := ⟨a, rfl, ⟨xs, h⟩, q⟩
theorem fb_range {lo : Int} {n : Nat} {g : TG} {tb : TS} (Pv : Nat → L2.St → Hp → Prop) (h0 : Pv 0 σ H)
    (hs : ∀ i σ H, i < n → Pv i σ H → g (.int (lo + i)) σ H fun σ2 H2 => tb { D with nx := Pv (i + 1), ct := Pv (i + 1), bk := D.nx } σ2 H2) (hd : ∀ σ H, Pv n σ H → D.nx σ H) : FB (Itr lo n) g tb D σ H := for_range Pv h0 hs hd
theorem fb_list {a : Addr} (xs : List V) {g : TG} {tb : TS} (Pv : Nat → L2.St → Hp → Prop) (h0 : Pv 0 σ H) (hl : ∀ i σ H, i ≤ xs.length → Pv i σ H → SqL K H a xs)
    (hs : ∀ i x σ H, xs[i]? = some x → Pv i σ H → g x σ H fun σ2 H2 => tb { D with nx := Pv (i + 1), ct := Pv (i + 1), bk := D.nx } σ2 H2) (hd : ∀ σ H, Pv xs.length σ H → D.nx σ H) : FB (Itl K a) g tb D σ H := for_list Pv h0 hl hs hd
theorem fb_tup {a : Addr} (xs : List V) {g : TG} {tb : TS} (Pv : Nat → L2.St → Hp → Prop) (h0 : Pv 0 σ H) (hl : ∀ i σ H, i ≤ xs.length → Pv i σ H → SqT K H a xs)
    (hs : ∀ i x σ H, xs[i]? = some x → Pv i σ H → g x σ H fun σ2 H2 => tb { D with nx := Pv (i + 1), ct := Pv (i + 1), bk := D.nx } σ2 H2) (hd : ∀ σ H, Pv xs.length σ H → D.nx σ H) : FB (Itt K a) g tb D σ H := for_tup Pv h0 hl hs hd
def LB (J : It) (g : TG) (tt : TT) (te : TE) (vs : List Nat) (σ : L2.St) (H : Hp) (Q : VK) : Prop := tLc (fun _ H R => R J H) g tt te vs σ H Q
theorem w_lc {wi : TI} {g : TG} {tt : TT} {te : TE} {vs : List Nat} (h : wi σ H fun J H1 => LB J g tt te vs σ H1 Q) : tLc wi g tt te vs σ H Q := h
theorem lb_range {lo : Int} {n : Nat} {g : TG} {tt : TT} {te : TE} {vs : List Nat} (Pv : Addr → Nat → Hp → Prop) (h0 : ∀ D, H D = none → Pv D 0 (upd H D (.lst [])))
    (hs : ∀ D, H D = none → ∀ i H1, i < n → Pv D i H1 → g (.int (lo + i)) (wipe σ vs) H1 fun σ2 H2 => wipe σ2 vs = wipe σ vs ∧ tt σ2 H2 fun b H3 =>
      if b = true then te σ2 H3 fun y H4 => ∃ acc, H4 D = some (.lst acc) ∧ acc.length < sizeLine ∧ Pv D (i + 1) (upd H4 D (.lst (acc ++ [y]))) else Pv D (i + 1) H3) (hd : ∀ D, H D = none → ∀ H1, Pv D n H1 → Q (.ref D) H1) : LB (Itr lo n) g tt te vs σ H Q :=
  fun D hD => lc_range (Pv D) (h0 D hD) (hs D hD) (hd D hD)
theorem lb_list {a : Addr} (xs : List V) {g : TG} {tt : TT} {te : TE} {vs : List Nat} (Pv : Addr → Nat → Hp → Prop) (h0 : ∀ D, H D = none → Pv D 0 (upd H D (.lst []))) (hl : ∀ D, H D = none → ∀ i H1, i ≤ xs.length → Pv D i H1 → SqL K H1 a xs)
    (hs : ∀ D, H D = none → ∀ i x H1, xs[i]? = some x → Pv D i H1 → g x (wipe σ vs) H1 fun σ2 H2 => wipe σ2 vs = wipe σ vs ∧ tt σ2 H2 fun b H3 =>
      if b = true then te σ2 H3 fun y H4 => ∃ acc, H4 D = some (.lst acc) ∧ acc.length < sizeLine ∧ Pv D (i + 1) (upd H4 D (.lst (acc ++ [y]))) else Pv D (i + 1) H3) (hd : ∀ D, H D = none → ∀ H1, Pv D xs.length H1 → Q (.ref D) H1) : LB (Itl K a) g tt te vs σ H Q :=
  fun D hD => lc_list (Pv D) (h0 D hD) (hl D hD) (hs D hD) (hd D hD)
def IE (K : PySem.W.Frag) (vs : List V) (H : Hp) (R : It → Hp → Prop) : Prop := iEnum K (fun _ H Q => Q vs H) [] H R
theorem w_enum {ta : TA} (h : ta σ H fun vs H1 => IE K vs H1 R) : iEnum K ta σ H R := h
theorem w_IE {a : Addr} {xs : List V} (h : SqL K H a xs) (q : R (Ite K a) H) : IE K [.ref a] H R := ⟨a, xs, rfl, h, q⟩
theorem lb_enum {a : Addr} (xs : List V) {g : TG} {tt : TT} {te : TE} {vs : List Nat} (Pv : Addr → Nat → Hp → Prop) (h0 : ∀ D, H D = none → Pv D 0 (upd H D (.lst []))) (hl : ∀ D, H D = none → ∀ i H1, i ≤ xs.length → Pv D i H1 → SqL K H1 a xs)
    (hs : ∀ D, H D = none → ∀ i v T H1, xs[i]? = some v → Pv D i H1 → H1 T = none → g (.ref T) (wipe σ vs) (upd H1 T (.tup [.int (i : Nat), v])) fun σ2 H2 => wipe σ2 vs = wipe σ vs ∧ tt σ2 H2 fun b H3 =>
      if b = true then te σ2 H3 fun y H4 => ∃ acc, H4 D = some (.lst acc) ∧ acc.length < sizeLine ∧ Pv D (i + 1) (upd H4 D (.lst (acc ++ [y]))) else Pv D (i + 1) H3) (hd : ∀ D, H D = none → ∀ H1, Pv D xs.length H1 → Q (.ref D) H1) : LB (Ite K a) g tt te vs σ H Q :=
  fun D hD => lc_it (walk_enum (xs := xs)) (Pv D) (h0 D hD) (hl D hD) (fun i x H1 H2 _ p y => by
    obtain ⟨T, u, v, rfl, hT, rfl, e1, e2⟩ := y
    cases Option.some.inj e1
    exact hs D hD i v T H1 e2 p hT) (hd D hD)
theorem w_yes {QB : Bool → Hp → Prop} (h : QB true H) : tYes σ H QB := h
theorem w_gtup {n : Nat} {t : TGs} {a : Addr} {xs : List V} (h : SqT K H a xs) (e : xs.length = n) (q : t xs σ H QS) : gTup K n t (.ref a) σ H QS := ⟨a, xs, rfl, h, e, q⟩
theorem w_gcons {t : TG} {u : TGs} {v : V} {r : List V} (h : t v σ H fun σ' H' => u r σ' H' QS) : gCons t u (v :: r) σ H QS := ⟨v, r, rfl, h⟩
theorem w_gnil (h : QS σ H) : gNil [] σ H QS := ⟨rfl, h⟩
theorem w_gsub {to ti : TE} {t : TSet} {v : V} (h : to σ H fun o H1 => ti σ H1 fun i H2 => t o i v H2 fun H3 => QS σ H3) : gSub to ti t v σ H QS := h
theorem w_setL {p : Addr} {xs : List V} {k : Int} {j : Nat} {v : V} {QH : Hp → Prop} (h : H p = some (.lst xs)) (e : ixN xs.length k = some j) (q : QH (upd H p (.lst (xs.set j v)))) : rSetL (.ref p) (.int k) v H QH := ⟨p, xs, k, j, rfl, rfl, h, e, q⟩
theorem w_aug {i : Nat} {te : TE} {ti : TIp} {x : V} (e : σ[i]? = some (some x)) (h : te σ H fun y H1 => ti x y H1 fun z H2 => D.nx (σ.set i (some z)) H2) : tAug i te ti D σ H := ⟨x, e, h⟩
theorem w_ipI {f : Int → Int → Int} {i j : Int} (h : Q (.int (f i j)) H) : ipI f (.int i) (.int j) H Q := ⟨i, j, rfl, rfl, h⟩
theorem w_append {l : Addr} {xs : List V} {y : V} (h : H l = some (.lst xs)) (hl : xs.length < sizeLine) (q : Q .non (upd H l (.lst (xs ++ [y])))) : rAppend (.ref l) [y] H Q := ⟨l, xs, y, rfl, rfl, h, hl, q⟩
theorem ty_list {l : Addr} {xs : List V} (h : H l = some (.lst xs)) : tyV K "list" (.ref l) H := .inl ⟨rfl, _, .inl (.inl h)⟩
theorem w_mod {i j : Int} (h : 0 < j) (q : ∀ r, 0 ≤ r → r < j → Q (.int r) H) : rI (fun _ j => 0 < j) (fun i j => .int (i % j)) (.int i) (.int j) H Q :=
  ⟨i, j, rfl, rfl, h, q _ (Int.emod_nonneg _ (by omega)) (Int.emod_lt_of_pos _ h)⟩
theorem w_div {i j : Int} (h : CDivW i j) (q : ∀ r, Q (.int r) H) : rI CDivW (fun i j => .int (i / j)) (.int i) (.int j) H Q := ⟨i, j, rfl, rfl, h, q _⟩
theorem w_rIv {C : Int → Int → Prop} {g : Int → Int → V} {i j : Int} (v : V) (c : C i j) (e : g i j = v) (h : Q v H) : rI C g (.int i) (.int j) H Q := ⟨i, j, rfl, rfl, c, by rw [e]; exact h⟩
theorem w_isi {x : V} {n : String} {t : Value} {b : Bool} (ty : TyX K H x t) (k : PySem.W.kitOne K t (.type n) = some b) (q : Q (.bl b) H) : rIsi K [x, .ty n] H Q := ⟨x, .ty n, t, .type n, b, rfl, .ty n, ty, k, q⟩
theorem w_andV {ta tb : TE} (h : ta σ H fun x H1 => ∃ c, x = .bl c ∧ if c = true then tb σ H1 Q else Q (.bl false) H1) : tAndV ta tb σ H Q := h
theorem w_orV {ta tb : TE} (h : ta σ H fun x H1 => ∃ c, x = .bl c ∧ if c = true then Q (.bl true) H1 else tb σ H1 Q) : tOrV ta tb σ H Q := h
theorem w_notV {ta : TE} (h : ta σ H fun x H1 => ∃ c, x = .bl c ∧ Q (.bl (!c)) H1) : tNotV ta σ H Q := h
theorem w_slL {a : Addr} {xs : List V} {lo hi : Option Int} (h : SqL K H a xs) (q : ∀ p, H p = none → Q (.ref p) (upd H p (.lst (cutV xs lo hi)))) : rSlL K (.ref a) lo hi H Q := ⟨a, xs, rfl, h, q⟩
theorem w_sl {r : V → Option Int → Option Int → Hp → VK → Prop} {te : TE} {tl th : TO} (h : te σ H fun x H1 => tl σ H1 fun l H2 => th σ H2 fun u H3 => r x l u H3 Q) : tSl r te tl th σ H Q := h
theorem w_nopart {QO : Option Int → Hp → Prop} (h : QO none H) : tNoPart σ H QO := h
theorem w_part {QO : Option Int → Hp → Prop} {t : TE} (h : t σ H fun x H1 => ∃ i, x = .int i ∧ QO (some i) H1) : tPart t σ H QO := h
end
end Ct

namespace Ct
open PySem PySem.Spec PyProof.Rows L2
/-! parts, stands, what a push does -/
inductive Part where
  | wheel (z : Int) (ms : List Int) | click | rocker | spring (k : Int)
def Part.data : Part → PyData
  | .wheel z ms => .tuple [.str "wheel", .int z, .tuple (ms.map PyData.int)]
  | .click => .tuple [.str "click"]
  | .rocker => .tuple [.str "rocker"]
  | .spring k => .tuple [.str "spring", .int k]
def Part.places : Part → Int
  | .wheel z _ => z
  | .click => 1
  | .rocker => 2
  | .spring k => k
def Rise (z : Int) (ms : List Int) : Prop := ms.Pairwise (· < ·) ∧ ∀ m ∈ ms, 0 ≤ m ∧ m < z
def Part.ok : Part → Prop
  | .wheel z ms => 1 ≤ z ∧ z < 2 ^ 200 ∧ Rise z ms ∧ ms.length ≤ 1000
  | .click => True
  | .rocker => True
  | .spring k => 1 ≤ k ∧ k < 2 ^ 200
theorem Part.ok.pos {p : Part} (h : p.ok) : 1 ≤ p.places ∧ p.places < 2 ^ 200 := by
  cases p with
  | wheel z ms => exact ⟨h.1, h.2.1⟩
  | click => exact ⟨by decide, by decide⟩
  | rocker => exact ⟨by decide, by decide⟩
  | spring k => exact h
/-- the new place and what is given -/
def pp : Part → Int → Int → Int × Int
  | .wheel z ms, x, w => ((x + w) % z, if (if w = 1 then (x + w) % z else x) ∈ ms then w else 0)
  | .click, _, w => (0, if w = 1 then 1 else 0)
  | .rocker, x, w => (if w = 1 then 1 else 0, if w = 1 ∧ x = 0 then 1 else 0)
  | .spring k, x, w => if w = 1 then (if x = k - 1 then (0, 1) else (x + 1, 0)) else (if x - 1 > 0 then x - 1 else 0, 0)
def stands : List Part → Int
  | [] => 1
  | p :: r => p.places * stands r
def Sign (w : Int) : Prop := w = 1 ∨ w = -1
theorem pp_sign (p : Part) (x w : Int) (h : Sign w) : (pp p x w).2 = 0 ∨ Sign (pp p x w).2 := by
  cases p with
  | wheel z ms =>
    by_cases e : (if w = 1 then (x + w) % z else x) ∈ ms
    · rw [show (pp (.wheel z ms) x w).2 = w from if_pos e]
      exact .inr h
    · exact .inl (if_neg e)
  | click =>
    show (if w = 1 then (1 : Int) else 0) = 0 ∨ Sign (if w = 1 then (1 : Int) else 0)
    split
    · exact .inr (.inl rfl)
    · exact .inl rfl
  | rocker =>
    show (if w = 1 ∧ x = 0 then (1 : Int) else 0) = 0 ∨ Sign (if w = 1 ∧ x = 0 then (1 : Int) else 0)
    split
    · exact .inr (.inl rfl)
    · exact .inl rfl
  | spring k =>
    show (if w = 1 then (if x = k - 1 then ((0 : Int), (1 : Int)) else (x + 1, 0)) else (if x - 1 > 0 then x - 1 else 0, 0)).2 = 0 ∨ Sign (if w = 1 then (if x = k - 1 then ((0 : Int), (1 : Int)) else (x + 1, 0)) else (if x - 1 > 0 then x - 1 else 0, 0)).2
    split
    · split
      · exact .inr (.inl rfl)
      · exact .inl rfl
    · exact .inl rfl
/-- one part's turn in a push that goes along a train -/
def stp (ps : List Part) (s : List Int × Int) (n : Nat) : List Int × Int :=
  if s.2 = 0 then s else match ps[n]?, s.1[n]? with
    | some p, some x => (s.1.set n (pp p x s.2).1, (pp p x s.2).2)
    | _, _ => s
def runN (ps : List Part) (i : Nat) (s : List Int × Int) : Nat → List Int × Int
  | 0 => s
  | n + 1 => stp ps (runN ps i s n) (i + n)
theorem stp_zero {ps : List Part} {s : List Int × Int} {n : Nat} (h : s.2 = 0) : stp ps s n = s := by
  unfold stp
  rw [if_pos h]
theorem stp_at {ps : List Part} {s : List Int × Int} {n : Nat} {p : Part} {x : Int} (h : s.2 ≠ 0) (hp : ps[n]? = some p) (hx : s.1[n]? = some x) : stp ps s n = (s.1.set n (pp p x s.2).1, (pp p x s.2).2) := by
  unfold stp
  rw [if_neg h, hp, hx]
theorem runN_zero {ps : List Part} {i : Nat} {s : List Int × Int} {n : Nat} (h : (runN ps i s n).2 = 0) : ∀ m, runN ps i s (n + m) = runN ps i s n
  | 0 => rfl
  | m + 1 => by
    show stp ps (runN ps i s (n + m)) _ = _
    rw [runN_zero h m]
    exact stp_zero h
theorem stp_len (ps : List Part) (s : List Int × Int) (n : Nat) : (stp ps s n).1.length = s.1.length := by
  unfold stp
  split
  · rfl
  · split
    · show (s.1.set n _).length = _
      rw [List.length_set]
    · rfl
theorem runN_len (ps : List Part) (i : Nat) (s : List Int × Int) : ∀ n, (runN ps i s n).1.length = s.1.length
  | 0 => rfl
  | n + 1 => by
    show (stp ps _ _).1.length = _
    rw [stp_len, runN_len ps i s n]
theorem stp_other {ps : List Part} {s : List Int × Int} {n m : Nat} (h : n ≠ m) : (stp ps s n).1[m]? = s.1[m]? := by
  unfold stp
  split
  · rfl
  · split
    · show (s.1.set n _)[m]? = _
      rw [List.getElem?_set_ne h]
    · rfl
/-- parts not come to yet stand as they stood -/
theorem runN_ahead (ps : List Part) (i : Nat) (s : List Int × Int) : ∀ n m, i + n ≤ m → (runN ps i s n).1[m]? = s.1[m]?
  | 0, _, _ => rfl
  | n + 1, m, h => by
    show (stp ps _ _).1[m]? = _
    rw [stp_other (by omega), runN_ahead ps i s n m (by omega)]
theorem runN_sign (ps : List Part) (i : Nat) (s : List Int × Int) (h : Sign s.2) : ∀ n, (runN ps i s n).2 = 0 ∨ Sign (runN ps i s n).2
  | 0 => .inr h
  | n + 1 => by
    show (stp ps _ _).2 = 0 ∨ Sign (stp ps _ _).2
    rcases runN_sign ps i s h n with e | e
    · rw [stp_zero e]
      exact .inl e
    · unfold stp
      split
      · rename_i z
        exact .inl z
      · split
        · exact pp_sign _ _ _ e
        · exact .inr e
def StandOk (ps : List Part) (xs : List Int) : Prop := xs.length = ps.length ∧ ∀ (i : Nat) (p : Part) (x : Int), ps[i]? = some p → xs[i]? = some x → 0 ≤ x ∧ x < p.places
def run (ps : List Part) (xs : List Int) (i : Nat) (w : Int) : List Int × Int := runN ps i (xs, w) (ps.length - i)
/-! what stands for a part -/
section
variable {K : PySem.W.Frag} {H : Hp}
theorem tup_inv {v : V} {ds : List PyData} (h : Dp K H v (.tuple ds)) : ∃ a vs, v = .ref a ∧ SqT K H a vs ∧ DpAll K H vs ds := by
  cases h with
  | tup h t => exact ⟨_, _, rfl, h, t⟩
theorem lst_inv {v : V} {ds : List PyData} (h : Dp K H v (.list ds)) : ∃ a vs, v = .ref a ∧ SqL K H a vs ∧ DpAll K H vs ds := by
  cases h with
  | lst h t => exact ⟨_, _, rfl, h, t⟩
theorem wheel_inv {v : V} {z : Int} {ms : List Int} (h : Dp K H v (Part.wheel z ms).data) : ∃ a b, v = .ref a ∧ SqT K H a [.str "wheel", .int z, .ref b] ∧ SqT K H b (ms.map V.int) := by
  obtain ⟨a, vs, rfl, hs, ht⟩ := tup_inv h
  cases ht with
  | cons h1 t1 => cases h1; cases t1 with
    | cons h2 t2 => cases h2; cases t2 with
      | cons h3 t3 =>
        cases t3
        obtain ⟨b, ws, rfl, hb, hw⟩ := tup_inv h3
        cases dpAll_ints_inv ms hw
        exact ⟨a, b, rfl, hs, hb⟩
theorem spring_inv {v : V} {k : Int} (h : Dp K H v (Part.spring k).data) : ∃ a, v = .ref a ∧ SqT K H a [.str "spring", .int k] := by
  obtain ⟨a, vs, rfl, hs, ht⟩ := tup_inv h
  cases ht with
  | cons h1 t1 => cases h1; cases t1 with
    | cons h2 t2 => cases h2; cases t2; exact ⟨a, rfl, hs⟩
theorem click_inv {v : V} (h : Dp K H v Part.click.data) : ∃ a, v = .ref a ∧ SqT K H a [.str "click"] := by
  obtain ⟨a, vs, rfl, hs, ht⟩ := tup_inv h
  cases ht with
  | cons h1 t1 => cases h1; cases t1; exact ⟨a, rfl, hs⟩
theorem rocker_inv {v : V} (h : Dp K H v Part.rocker.data) : ∃ a, v = .ref a ∧ SqT K H a [.str "rocker"] := by
  obtain ⟨a, vs, rfl, hs, ht⟩ := tup_inv h
  cases ht with
  | cons h1 t1 => cases h1; cases t1; exact ⟨a, rfl, hs⟩
theorem wheel_dp {a b : Addr} {z : Int} {ms : List Int} (h : SqT K H a [.str "wheel", .int z, .ref b]) (hb : SqT K H b (ms.map V.int)) : Dp K H (.ref a) (Part.wheel z ms).data :=
  .tup h (.cons (.str _) (.cons (.int _) (.cons (.tup hb (dpAll_ints ms)) .nil)))
theorem spring_dp {a : Addr} {k : Int} (h : SqT K H a [.str "spring", .int k]) : Dp K H (.ref a) (Part.spring k).data := .tup h (.cons (.str _) (.cons (.int _) .nil))
theorem click_dp {a : Addr} (h : SqT K H a [.str "click"]) : Dp K H (.ref a) Part.click.data := .tup h (.cons (.str _) .nil)
theorem rocker_dp {a : Addr} (h : SqT K H a [.str "rocker"]) : Dp K H (.ref a) Part.rocker.data := .tup h (.cons (.str _) .nil)
/-- a train at a: its parts -/
def TrainAt (K : PySem.W.Frag) (H : Hp) (a : Addr) (ps : List Part) : Prop := ∃ vs, SqL K H a vs ∧ DpAll K H vs (ps.map Part.data)
theorem TrainAt.same {H' : Hp} {a : Addr} {ps : List Part} (e : Same H H') (h : TrainAt K H a ps) : TrainAt K H' a ps := by
  obtain ⟨vs, h1, h2⟩ := h
  exact ⟨vs, e.seq h1, dpAll_same e h2⟩
theorem TrainAt.at {a : Addr} {ps : List Part} {vs : List V} (h2 : DpAll K H vs (ps.map Part.data)) {i : Nat} {p : Part} (e : ps[i]? = some p) : ∃ v, vs[i]? = some v ∧ Dp K H v p.data :=
  dpAll_get h2 (by rw [List.getElem?_map, e]; rfl)
end
/-- a list that is changed leaves the parts as they are -/
theorem sqT_upd {K : PySem.W.Frag} {H : Hp} {a l : Addr} {xs ws : List V} {o : HO} (h : SqT K H a xs) (hl : H l = some (.lst ws)) : SqT K (upd H l o) a xs := by
  rcases h with (h | ⟨u, h⟩) | h
  · exact .inl (.inl (by rw [upd_ne (ne_of h hl (by intro z; cases z))]; exact h))
  · exact .inl (.inr ⟨u, by rw [upd_ne (ne_of h hl (by intro z; cases z))]; exact h⟩)
  · exact .inr h
theorem part_upd {K : PySem.W.Frag} {H : Hp} {l : Addr} {ws : List V} {o : HO} {v : V} {p : Part} (h : Dp K H v p.data) (hl : H l = some (.lst ws)) : Dp K (upd H l o) v p.data := by
  cases p with
  | wheel z ms =>
    obtain ⟨a, b, rfl, ha, hb⟩ := wheel_inv h
    exact wheel_dp (sqT_upd ha hl) (sqT_upd hb hl)
  | click =>
    obtain ⟨a, rfl, ha⟩ := click_inv h
    exact click_dp (sqT_upd ha hl)
  | rocker =>
    obtain ⟨a, rfl, ha⟩ := rocker_inv h
    exact rocker_dp (sqT_upd ha hl)
  | spring k =>
    obtain ⟨a, rfl, ha⟩ := spring_inv h
    exact spring_dp (sqT_upd ha hl)
theorem parts_upd {K : PySem.W.Frag} {H : Hp} {l : Addr} {ws : List V} {o : HO} (hl : H l = some (.lst ws)) : ∀ {vs : List V} (ps : List Part), DpAll K H vs (ps.map Part.data) → DpAll K (upd H l o) vs (ps.map Part.data)
  | _, [], .nil => .nil
  | _, p :: r, .cons h t => .cons (part_upd h hl) (parts_upd hl r t)
theorem stands_app : ∀ (ps : List Part) (p : Part), stands (ps ++ [p]) = stands ps * p.places
  | [], p => by
    show p.places * 1 = 1 * p.places
    rw [Int.mul_one, Int.one_mul]
  | a :: r, p => by
    show a.places * stands (r ++ [p]) = a.places * stands r * p.places
    rw [stands_app r p, Int.mul_assoc]
theorem stands_pos : ∀ (ps : List Part), (∀ p ∈ ps, p.ok) → 1 ≤ stands ps
  | [], _ => Int.le_refl _
  | a :: r, h => by
    have h1 := (h a List.mem_cons_self).pos.1
    have h2 := stands_pos r fun p hp => h p (List.mem_cons_of_mem _ hp)
    show 1 ≤ a.places * stands r
    have := Int.mul_le_mul h1 h2 (by decide) (by omega)
    omega
theorem room_step {s pl room most : Int} (hs : 1 ≤ s) (h1 : 1 ≤ pl) (h2 : pl ≤ room) (h : s * room ≤ most) : 1 ≤ room / pl ∧ s * pl * (room / pl) ≤ most := by
  refine ⟨Int.le_ediv_of_mul_le (by omega) (by omega), ?_⟩
  rw [Int.mul_assoc]
  exact Int.le_trans (Int.mul_le_mul_of_nonneg_left (Int.mul_ediv_self_le (by omega)) (by omega)) h
theorem room_end {s room most : Int} (hs : 1 ≤ s) (h1 : 1 ≤ room) (h : s * room ≤ most) : s ≤ most := by
  have := Int.mul_le_mul_of_nonneg_left h1 (show 0 ≤ s by omega)
  omega
/-! data that can be laid -/
theorem canLay_ints : ∀ ns : List Int, PyData.canLayAll0 (ns.map PyData.int) = true
  | [] => rfl
  | n :: r => by
    rw [List.map_cons, PyData.canLayAll0, canLay_ints r]
    rfl
theorem lay_all {n : Nat} : ∀ ds : List PyData, (∀ d ∈ ds, d.canLay0 = true ∧ d.depth ≤ n) → PyData.canLayAll0 ds = true ∧ PyData.depthAll ds ≤ n
  | [], _ => ⟨rfl, Nat.zero_le _⟩
  | d :: r, h => by
    have h1 := h d List.mem_cons_self
    have h2 := lay_all r fun e he => h e (List.mem_cons_of_mem _ he)
    rw [PyData.canLayAll0, PyData.depthAll, h1.1, h2.1]
    exact ⟨rfl, Nat.max_le.mpr ⟨h1.2, h2.2⟩⟩
theorem lay_tup {n : Nat} {ds : List PyData} (h : ∀ d ∈ ds, d.canLay0 = true ∧ d.depth ≤ n) : (PyData.tuple ds).canLay0 = true ∧ (PyData.tuple ds).depth ≤ n + 1 := by
  obtain ⟨h1, h2⟩ := lay_all ds h
  rw [PyData.canLay0, PyData.depth]
  exact ⟨h1, by omega⟩
theorem lay_lst {n : Nat} {ds : List PyData} (h : ∀ d ∈ ds, d.canLay0 = true ∧ d.depth ≤ n) : (PyData.list ds).canLay0 = true ∧ (PyData.list ds).depth ≤ n + 1 := by
  obtain ⟨h1, h2⟩ := lay_all ds h
  rw [PyData.canLay0, PyData.depth]
  exact ⟨h1, by omega⟩
theorem lay_int (n : Nat) (i : Int) : (PyData.int i).canLay0 = true ∧ (PyData.int i).depth ≤ n := ⟨rfl, Nat.zero_le _⟩
theorem lay_str (n : Nat) (x : Str) (h : (PyData.str x).canLay0 = true := by decide +kernel) : (PyData.str x).canLay0 = true ∧ (PyData.str x).depth ≤ n := ⟨h, Nat.zero_le _⟩
theorem lay_ints (ns : List Int) (n : Nat) : ∀ d ∈ ns.map PyData.int, d.canLay0 = true ∧ d.depth ≤ n := fun d hd => by
  obtain ⟨i, _, rfl⟩ := List.mem_map.mp hd
  exact lay_int n i
theorem lay_mono {d : PyData} {n m : Nat} (h : d.canLay0 = true ∧ d.depth ≤ n) (e : n ≤ m) : d.canLay0 = true ∧ d.depth ≤ m := ⟨h.1, Nat.le_trans h.2 e⟩
theorem lay_part (p : Part) : p.data.canLay0 = true ∧ p.data.depth ≤ 2 := by
  cases p with
  | wheel z ms =>
    refine lay_tup (n := 1) fun d hd => ?_
    rcases List.mem_cons.mp hd with rfl | hd
    · exact lay_str _ _
    rcases List.mem_cons.mp hd with rfl | hd
    · exact lay_int _ _
    rcases List.mem_cons.mp hd with rfl | hd
    · exact lay_tup (lay_ints ms 0)
    · cases hd
  | click => exact lay_mono (lay_tup (n := 0) fun d hd => by
      rcases List.mem_cons.mp hd with rfl | hd
      · exact lay_str _ _
      · cases hd) (by decide)
  | rocker => exact lay_mono (lay_tup (n := 0) fun d hd => by
      rcases List.mem_cons.mp hd with rfl | hd
      · exact lay_str _ _
      · cases hd) (by decide)
  | spring k => exact lay_mono (lay_tup (n := 0) fun d hd => by
      rcases List.mem_cons.mp hd with rfl | hd
      · exact lay_str _ _
      rcases List.mem_cons.mp hd with rfl | hd
      · exact lay_int _ _
      · cases hd) (by decide)
theorem lay_train (ps : List Part) : (PyData.list (ps.map Part.data)).canLay0 = true ∧ (PyData.list (ps.map Part.data)).depth ≤ 3 := lay_lst fun d hd => by
  obtain ⟨p, _, rfl⟩ := List.mem_map.mp hd
  exact lay_part p
theorem shaped_of {d : PyData} {n : Nat} (h : d.canLay0 = true ∧ d.depth ≤ n) (e : n ≤ 64) : SeqAt.shaped d = true := by
  unfold SeqAt.shaped
  rw [h.1, decide_eq_true (Nat.le_trans h.2 e)]
  rfl
theorem lay_told (xs : List Int) (y : Int) : (PyData.tuple [.tuple (xs.map PyData.int), .int y]).canLay0 = true ∧ (PyData.tuple [.tuple (xs.map PyData.int), .int y]).depth ≤ 2 := lay_tup (n := 1) fun d hd => by
  rcases List.mem_cons.mp hd with rfl | hd
  · exact lay_tup (lay_ints xs 0)
  rcases List.mem_cons.mp hd with rfl | hd
  · exact lay_int _ _
  · cases hd
theorem w_neSame {K : PySem.W.Frag} {H : Hp} {Q : VK} {x y : V} (d : PyData) {n : Nat} (hx : Dp K H x d) (hy : Dp K H y d) (h : d.canLay0 = true ∧ d.depth ≤ n) (e : n ≤ 64) (q : Q (.bl false) H) : rNeD K x y H Q :=
  ⟨d, d, hx, hy, shaped_of h e, shaped_of h e, by rw [SeqAt.eqv_refl d h.1]; exact q⟩
theorem tyx_T {K : PySem.W.Frag} {H : Hp} {a : Addr} {xs : List V} (h : SqT K H a xs) : TyX K H (.ref a) (.type "tuple") := by
  rcases h with (h | ⟨o, h⟩) | ⟨o, its, n, hk, hc, _⟩
  · exact .base (.tup h)
  · exact .fTuple h
  · exact .kTuple hk hc
theorem tyx_L {K : PySem.W.Frag} {H : Hp} {a : Addr} {xs : List V} (h : SqL K H a xs) : TyX K H (.ref a) (.type "list") := by
  rcases h with (h | ⟨o, h⟩) | ⟨o, its, n, hk, hc, _⟩
  · exact .base (.lst h)
  · exact .base (.frz h)
  · exact .kList hk hc
end Ct

namespace Ct
open PySem PySem.Spec PyProof.Rows L2
/-! zip of a list and a tuple: the list first -/
def ItM (K : PySem.W.Frag) (a b : Addr) : It where
  go := fun i H => ∃ (xs ys : List V) (x y : V), SqL K H a xs ∧ SqT K H b ys ∧ xs[i]? = some x ∧ ys[i]? = some y
  yld := fun i H v H' => ∃ T x y, v = .ref T ∧ H T = none ∧ H' = upd H T (.tup [x, y]) ∧ (∀ xs, SqL K H a xs → xs[i]? = some x) ∧ ∀ ys, SqT K H b ys → ys[i]? = some y
  stop := fun i H => ∃ xs ys : List V, SqL K H a xs ∧ SqT K H b ys ∧ min xs.length ys.length = i
abbrev ZSt (a b z TI TO i1 i2 : Addr) (i : Nat) (h : Heap) : Prop :=
  IsZip h z TI TO .none ∧ IsTupOf2 h TI (.ref i1) (.ref i2) ∧ (∃ a1 a2, IsTupOf2 h TO a1 a2) ∧ h.IsListIter i1 a i ∧ h.IsTupleIter i2 b i
theorem turnM {P : Program} {w : World} {K : PySem.W.Frag} {es : List Expr} {kk : Nat} {tp : Pos} {a b N : Nat} (ha : a < N) (hb : b < N) :
    Turn P w K (.Tuple es kk tp) (ItM K a b) [N + 4, N + 2, N + 3, N, N + 1] (N + 4) (ZSt a b (N + 4) (N + 2) (N + 3) N (N + 1)) := by
  have five : ∀ {c : Nat}, c ∈ [N + 4, N + 2, N + 3, N, N + 1] → N ≤ c := fun {c} hc => by
    simp only [List.mem_cons, List.not_mem_nil, or_false] at hc
    omega
  have sep : ZipSep2 (N + 4) (N + 2) (N + 3) N (N + 1) [N, a] [N + 1, b] := zip_sep2 (fun c hc => by rw [List.mem_singleton] at hc; rw [hc]; exact ha) fun c hc => by rw [List.mem_singleton] at hc; rw [hc]; exact hb
  have wrfp : ∀ {c : Nat}, c ∉ [N + 4, N + 2, N + 3, N, N + 1] → c ∉ [N + 4, N + 3, N, N + 1] := fun {c} hc hm => hc (by
    simp only [List.mem_cons, List.not_mem_nil, or_false] at hm ⊢
    omega)
  refine ⟨List.mem_cons_self, fun i h st c hc => ?_, fun i h h' st k => ?_, ?_, ?_, fun A i s Q E st h => wpAny_pyIter_zip st.1 h⟩
  · obtain ⟨s1, s2, ⟨u, v, s3⟩, ⟨o1, g1, _, d1⟩, ⟨o2, g2, _, d2⟩⟩ := st
    simp only [List.mem_cons, List.not_mem_nil, or_false] at hc
    rcases hc with e | e | e | e | e <;> subst e
    · exact ⟨_, s1, fun v q => nomatch q⟩
    · exact ⟨_, s2, fun v q => nomatch q⟩
    · exact ⟨_, s3, fun v q => nomatch q⟩
    · exact ⟨o1, g1, fun v q => by rw [d1] at q; cases q⟩
    · exact ⟨o2, g2, fun v q => by rw [d2] at q; cases q⟩
  · obtain ⟨s1, s2, ⟨u, v, s3⟩, s4, s5⟩ := st
    exact ⟨k _ (by simp) _ s1, k _ (by simp) _ s2, ⟨u, v, k _ (by simp) _ s3⟩, s4.at fun o q => k N (by simp) o q, s5.at fun o q => k (N + 1) (by simp) o q⟩
  · intro X eP ew eK calm i pins s σ H E I hf st hg
    subst eP ew eK
    obtain ⟨xs, ys, x, y, lx, ty, gx, gy⟩ := hg
    obtain ⟨us, rx, px, _⟩ := I.list lx
    obtain ⟨vs, ry, py, _⟩ := I.tuple ty
    obtain ⟨s1, s2, s3, s4, s5⟩ := st
    have hh : X.A.in1.handled = none := I.ok.hd calm
    have G := GoesN.zip2 (elts := es) (x1 := kk) (pos := tp) sep (Draws.list (prog := X.prog) (w := X.w) hh N a (Nat.ne_of_lt ha) us.toArray) (Draws.tuple (prog := X.prog) (w := X.w) hh (N + 1) b (Nat.ne_of_lt (Nat.lt_succ_of_lt hb)) vs.toArray)
    have lu := rx.length
    have lv := ry.length
    have ix : i < xs.length := (List.getElem?_eq_some_iff.mp gx).1
    have iy : i < ys.length := (List.getElem?_eq_some_iff.mp gy).1
    refine G.goes i s _ E (by rw [List.size_toArray, List.size_toArray]; omega) ⟨s1, s2, s3, ⟨s4, px.isList⟩, ⟨s5, py⟩⟩ fun v h' tk hY st' hk _ => ?_
    obtain ⟨T, u1, u2, rfl, hT, q1, q2, hTu⟩ := hY
    obtain ⟨w1, e1, r1⟩ := rx.get gx
    obtain ⟨w2, e2, r2⟩ := ry.get gy
    have f1 : w1 = u1 := Option.some.inj (e1.symm.trans (by simpa using q1))
    have f2 : w2 = u2 := Option.some.inj (e2.symm.trans (by simpa using q2))
    subst f1 f2
    have new : ObjOk X.prog X.w (upd H T (.tup [x, y])) h' T (.tup [x, y]) := ⟨len2 rfl, [w1, w2], .cons r1 (.cons r2 .nil), hTu⟩
    refine ⟨.ref T, _, I.turnedNew (t' := tk) (fun c o hc e => hk c o (wrfp hc) e) hf hT new, rfl, ⟨T, x, y, rfl, I.hok.fresh hT, rfl, fun l hl => by rw [I.list_inj hl lx]; exact gx, fun l hl => by rw [I.tuple_inj hl ty]; exact gy⟩, ⟨st'.1, st'.2.1, st'.2.2.1, st'.2.2.2.1.1, st'.2.2.2.2.1⟩, fun c hc => ?_⟩
    obtain ⟨o, g, _⟩ : ∃ o, s.heap.get? c = some o ∧ True := by
      obtain ⟨u, v, s3⟩ := s3
      obtain ⟨o1, g1, _⟩ := s4
      obtain ⟨o2, g2, _⟩ := s5
      simp only [List.mem_cons, List.not_mem_nil, or_false] at hc
      rcases hc with e | e | e | e | e <;> subst e
      · exact ⟨_, s1, trivial⟩
      · exact ⟨_, s2, trivial⟩
      · exact ⟨_, s3, trivial⟩
      · exact ⟨_, g1, trivial⟩
      · exact ⟨_, g2, trivial⟩
    rw [upd_ne (Nat.ne_of_lt (Nat.lt_of_lt_of_le (Heap.lt_size g) hT))]
    exact (hf c hc).1
  · intro X eP ew eK calm i pins s σ H E I hf st hg
    subst eP ew eK
    obtain ⟨xs, ys, lx, ty, hm⟩ := hg
    obtain ⟨us, rx, px, _⟩ := I.list lx
    obtain ⟨vs, ry, py, _⟩ := I.tuple ty
    obtain ⟨s1, s2, s3, s4, s5⟩ := st
    have hh : X.A.in1.handled = none := I.ok.hd calm
    have G := GoesN.zip2 (elts := es) (x1 := kk) (pos := tp) sep (Draws.list (prog := X.prog) (w := X.w) hh N a (Nat.ne_of_lt ha) us.toArray) (Draws.tuple (prog := X.prog) (w := X.w) hh (N + 1) b (Nat.ne_of_lt (Nat.lt_succ_of_lt hb)) vs.toArray)
    have lu := rx.length
    have lv := ry.length
    have hn : min us.toArray.size vs.toArray.size = i := by rw [List.size_toArray, List.size_toArray]; omega
    rw [hn] at G
    exact G.stops s _ E ⟨s1, s2, s3, ⟨s4, px.isList⟩, ⟨s5, py⟩⟩ fun h' tk hk _ => I.turnedL (t' := tk) (fun c o hc e => hk c o (wrfp hc) e) hf
def iM (K : PySem.W.Frag) (ta : TA) : TI := fun σ H R => ta σ H fun vs H1 => ∃ a b xs ys, vs = [.ref a, .ref b] ∧ SqL K H1 a xs ∧ SqT K H1 b ys ∧ R (ItM K a b) H1
theorem pi_zipM {X : Cx} {e e2 : Expr} {ta : TA} {p pos tp : Pos} {es : List Expr} {kk : Nat} (gl : Gl X "zip") (mz : X.mg "zip" = none) (pa : PA X [e, e2] ta)
    (se : starEach [e, e2] X.env = (false, eval e X.env) :: starEach [e2] X.env := by rfl) (bk : (backTo pos (starEach [e2] X.env)).any (·.1) = false := by rfl) : PI X (.Tuple es kk tp) (.Call (.Name "zip" p) [e, e2] [] pos) (iM X.K ta) := by
  refine ⟨fun pins s σ H R I h => Call_ (ld_blt I gl mz boot_zip (callWith_type1 (thn (pa.run pos pins s σ H _ I h) fun us s1 ⟨vs, H1, I1, r1, q1⟩ => ?_) se bk))⟩
  obtain ⟨a, b, xs, ys, rfl, lx, ty, q⟩ := q1
  cases r1 with
  | cons ra rr => cases rr with
    | cons rb rn =>
      cases rn
      cases ra
      cases rb
      obtain ⟨us, rx, px, _⟩ := I1.list lx
      obtain ⟨vs, ry, py, _⟩ := I1.tuple ty
      obtain ⟨ob, gb, _⟩ := id py
      refine zip_begins2 (begins_list a us.toArray) (begins_tuple b vs.toArray) px.isList py fun h' z1 z2 z3 g1 g2 _ hk => wpAny_pyIter_zip z1 ?_
      have I2 : Inv X pins σ H1 { s1 with heap := h' } := I1.kept (t' := s1.toks) hk
      refine ⟨_, _, _, _, H1, rfl, I2, turnM px.lt (Heap.lt_size gb), ⟨z1, z2, ⟨_, _, z3⟩, ⟨_, g1, rfl, rfl⟩, ⟨_, g2, rfl, rfl⟩⟩, fun c hc => ?_, q⟩
      have hle : s1.heap.objs.size ≤ c := by
        simp only [List.mem_cons, List.not_mem_nil, or_false] at hc
        rcases hc with e | e | e | e | e <;> subst e <;> first | exact Nat.le_add_right _ _ | exact Nat.le_refl _
      exact I1.fpOk hle (I1.hok.fresh hle)
section
variable {K : PySem.W.Frag} {H : Hp} {σ : L2.St} {D : Ends} {R : It → Hp → Prop}
def IM (K : PySem.W.Frag) (vs : List V) (H : Hp) (R : It → Hp → Prop) : Prop := iM K (fun _ H Q => Q vs H) [] H R
theorem w_im {ta : TA} (h : ta σ H fun vs H1 => IM K vs H1 R) : iM K ta σ H R := h
theorem w_IM {a b : Addr} {xs ys : List V} (h1 : SqL K H a xs) (h2 : SqT K H b ys) (q : R (ItM K a b) H) : IM K [.ref a, .ref b] H R := ⟨a, b, xs, ys, rfl, h1, h2, q⟩
theorem fb_zipM {a b : Addr} (xs ys : List V) (hl : xs.length = ys.length) {g : TG} {tb : TS} (Pv : Nat → L2.St → Hp → Prop) (h0 : Pv 0 σ H) (hq : ∀ i σ H, i ≤ xs.length → Pv i σ H → SqL K H a xs ∧ SqT K H b ys)
    (hs : ∀ i x y T σ H, xs[i]? = some x → ys[i]? = some y → Pv i σ H → H T = none → g (.ref T) σ (upd H T (.tup [x, y])) fun σ2 H2 => tb { D with nx := Pv (i + 1), ct := Pv (i + 1), bk := D.nx } σ2 H2) (hd : ∀ σ H, Pv xs.length σ H → D.nx σ H) : FB (ItM K a b) g tb D σ H := by
  refine ⟨fun i m σ H => m = xs.length - i ∧ i ≤ xs.length ∧ Pv i σ H, ⟨xs.length, rfl, Nat.zero_le _, h0⟩, ?_⟩
  rintro i m σ H ⟨rfl, hi, p⟩
  obtain ⟨q1, q2⟩ := hq i σ H hi p
  by_cases hlt : i < xs.length
  · refine .inr ⟨⟨xs, ys, _, _, q1, q2, List.getElem?_eq_getElem hlt, List.getElem?_eq_getElem (hl ▸ hlt)⟩, Pv (i + 1), fun σ' H' p' => ⟨xs.length - (i + 1), by omega, rfl, hlt, p'⟩, fun v H' y => ?_⟩
    obtain ⟨T, x1, x2, rfl, hT, rfl, f1, f2⟩ := y
    exact hs i x1 x2 T σ H (f1 _ q1) (f2 _ q2) p hT
  · exact .inl ⟨⟨xs, ys, q1, q2, by omega⟩, hd σ H (by rw [show xs.length = i by omega]; exact p)⟩
end
end Ct

namespace Ct
open PySem PySem.Spec PyProof.Rows L2
/-! pushes of one deed, reckoned at once -/
def cnt (ms : List Int) (r : Int) : Int := ((ms.filter fun m => decide (m ≤ r)).length : Int)
theorem cnt_nil (r : Int) : cnt [] r = 0 := rfl
theorem cnt_cons (m : Int) (ms : List Int) (r : Int) : cnt (m :: ms) r = (if m ≤ r then 1 else 0) + cnt ms r := by
  unfold cnt
  rw [List.filter_cons]
  by_cases h : m ≤ r
  · rw [if_pos h, if_pos (decide_eq_true h), List.length_cons]
    omega
  · rw [if_neg h, if_neg (by rw [decide_eq_false h]; exact Bool.false_ne_true)]
    omega
theorem cnt_all : ∀ {ms : List Int} {r : Int}, (∀ m ∈ ms, m ≤ r) → cnt ms r = ms.length
  | [], _, _ => rfl
  | m :: ms, r, h => by
    rw [cnt_cons, if_pos (h m List.mem_cons_self), cnt_all fun x hx => h x (List.mem_cons_of_mem _ hx), List.length_cons]
    omega
theorem cnt_zero : ∀ {ms : List Int} {r : Int}, (∀ m ∈ ms, r < m) → cnt ms r = 0
  | [], _, _ => rfl
  | m :: ms, r, h => by
    have h1 := h m List.mem_cons_self
    rw [cnt_cons, if_neg (by omega), cnt_zero fun x hx => h x (List.mem_cons_of_mem _ hx)]
    rfl
theorem cnt_split : ∀ (ms : List Int) (k : Nat) (r : Int), k ≤ ms.length → (∀ (j : Nat) (m : Int), j < k → ms[j]? = some m → m ≤ r) → (∀ (j : Nat) (m : Int), k ≤ j → ms[j]? = some m → r < m) → cnt ms r = k
  | ms, 0, r, _, _, h => cnt_zero fun m hm => by
    obtain ⟨j, hj, e⟩ := List.mem_iff_getElem.mp hm
    exact h j m (Nat.zero_le _) (by rw [List.getElem?_eq_getElem hj, e])
  | [], k + 1, r, hk, _, _ => absurd hk (by simp)
  | m :: ms, k + 1, r, hk, h1, h2 => by
    rw [cnt_cons, if_pos (h1 0 m (Nat.succ_pos k) rfl), cnt_split ms k r (by rw [List.length_cons] at hk; omega) (fun j x hj hx => h1 (j + 1) x (by omega) hx) fun j x hj hx => h2 (j + 1) x (by omega) hx]
    omega
theorem cnt_step : ∀ {ms : List Int} (r : Int), ms.Pairwise (· < ·) → cnt ms r = cnt ms (r - 1) + (if r ∈ ms then 1 else 0)
  | [], _, _ => rfl
  | m :: ms, r, h => by
    obtain ⟨h1, h2⟩ := List.pairwise_cons.mp h
    have ih := cnt_step r h2
    rw [cnt_cons, cnt_cons, ih]
    by_cases e : r = m
    · subst e
      have hn : r ∉ ms := fun z => by
        have := h1 r z
        omega
      rw [if_neg hn, if_pos List.mem_cons_self, if_pos (Int.le_refl _), if_neg (by omega)]
      omega
    · have hm : (r ∈ m :: ms) ↔ r ∈ ms := ⟨fun z => (List.mem_cons.mp z).resolve_left e, fun z => List.mem_cons_of_mem _ z⟩
      by_cases hr : r ∈ ms
      · rw [if_pos hr, if_pos (hm.mpr hr)]
        by_cases h3 : m ≤ r
        · rw [if_pos h3, if_pos (by omega)]
          omega
        · rw [if_neg h3, if_neg (by omega)]
          omega
      · rw [if_neg hr, if_neg (fun z => hr (hm.mp z))]
        by_cases h3 : m ≤ r
        · rw [if_pos h3, if_pos (by omega)]
          omega
        · rw [if_neg h3, if_neg (by omega)]
          omega
/-- marks up to a tooth, over all turns -/
def mah (z : Int) (ms : List Int) (y : Int) : Int := y / z * (ms.length : Int) + cnt ms (y % z)
theorem mah_step {z : Int} {ms : List Int} (hz : 1 ≤ z) (rs : Rise z ms) (y : Int) : mah z ms y = mah z ms (y - 1) + (if y % z ∈ ms then 1 else 0) := by
  unfold mah
  have e := Int.emod_add_mul_ediv y z
  have r0 := Int.emod_nonneg y (show z ≠ 0 by omega)
  have r1 := Int.emod_lt_of_pos y (show 0 < z by omega)
  by_cases h : y % z = 0
  · obtain ⟨e1, e2⟩ := (Int.ediv_emod_unique (a := y - 1) (b := z) (r := z - 1) (q := y / z - 1) (by omega)).mpr ⟨by rw [Int.mul_sub]; omega, by omega, by omega⟩
    rw [e1, e2, h, cnt_all (ms := ms) (r := z - 1) (fun m hm => by have := (rs.2 m hm).2; omega), cnt_step 0 rs.1, cnt_zero (ms := ms) (r := 0 - 1) (fun m hm => by have := (rs.2 m hm).1; omega), Int.sub_mul]
    omega
  · obtain ⟨e1, e2⟩ := (Int.ediv_emod_unique (a := y - 1) (b := z) (r := y % z - 1) (q := y / z) (by omega)).mpr ⟨by omega, by omega, by omega⟩
    rw [e1, e2, cnt_step (y % z) rs.1]
    omega
theorem mah_up {z : Int} {ms : List Int} (hz : 1 ≤ z) (rs : Rise z ms) (y : Int) : ∀ t : Nat, mah z ms y ≤ mah z ms (y + t)
  | 0 => by rw [show y + ((0 : Nat) : Int) = y by omega]; exact Int.le_refl _
  | t + 1 => by
    have h := mah_step hz rs (y + ((t + 1 : Nat) : Int))
    rw [show y + ((t + 1 : Nat) : Int) - 1 = y + t by omega] at h
    have ih := mah_up hz rs y t
    rw [h]
    split <;> omega
/-- so many pushes one way at a part: its place, and how many it gives -/
def pt (p : Part) (x w t : Int) : Int × Int := match p with
  | .wheel z ms => ((x + w * t) % z, if mah z ms (x + w * t) - mah z ms x < 0 then -(mah z ms (x + w * t) - mah z ms x) else mah z ms (x + w * t) - mah z ms x)
  | .click => (x, if w = 1 then t else 0)
  | .rocker => if t = 0 then (x, 0) else if w = -1 then (0, 0) else (1, 1 - x)
  | .spring k => if w = -1 then (if x - t > 0 then x - t else 0, 0) else ((x + t) % k, (x + t) / k)
theorem pt_zero {p : Part} {x w : Int} (ok : p.ok) (h0 : 0 ≤ x) (h1 : x < p.places) : pt p x w 0 = (x, 0) := by
  cases p with
  | wheel z ms =>
    have h2 : x < z := h1
    simp only [pt, Int.mul_zero, Int.add_zero, Int.emod_eq_of_lt h0 h2, Int.sub_self]
    rfl
  | click =>
    simp only [pt]
    split <;> rfl
  | rocker => rfl
  | spring k =>
    have h2 : x < k := h1
    simp only [pt]
    split
    · rw [show (if x - 0 > 0 then x - 0 else 0) = x by split <;> omega]
    · rw [Int.add_zero, Int.emod_eq_of_lt h0 h2, Int.ediv_eq_zero_of_lt h0 h2]
theorem pp_way (p : Part) (x w : Int) (h : Sign w) : (pp p x w).2 = 0 ∨ (pp p x w).2 = w := by
  cases p with
  | wheel z ms =>
    by_cases e : (if w = 1 then (x + w) % z else x) ∈ ms
    · exact .inr (if_pos e)
    · exact .inl (if_neg e)
  | click =>
    by_cases e : w = 1
    · exact .inr (by simp only [pp, if_pos e]; exact e.symm)
    · exact .inl (if_neg e)
  | rocker =>
    by_cases e : w = 1 ∧ x = 0
    · exact .inr (by simp only [pp, if_pos e]; exact e.1.symm)
    · exact .inl (if_neg e)
  | spring k =>
    by_cases e : w = 1
    · by_cases e2 : x = k - 1
      · exact .inr (by simp only [pp, if_pos e, if_pos e2]; exact e.symm)
      · exact .inl (by simp only [pp, if_pos e, if_neg e2])
    · exact .inl (by simp only [pp, if_neg e])
theorem neg_abs {d : Int} (h : 0 ≤ d) : (if d < 0 then -d else d) = d := if_neg (by omega)
theorem abs_neg {d : Int} (h : d ≤ 0) : (if d < 0 then -d else d) = -d := by
  split <;> omega
/-- one push more -/
theorem pt_step {p : Part} {x w : Int} (ok : p.ok) (h0 : 0 ≤ x) (h1 : x < p.places) (hw : Sign w) (t : Nat) :
    pt p x w ((t + 1 : Nat) : Int) = ((pp p (pt p x w t).1 w).1, (pt p x w t).2 + if (pp p (pt p x w t).1 w).2 = 0 then 0 else 1) := by
  cases p with
  | wheel z ms =>
    have hz : 1 ≤ z := ok.1
    have rs : Rise z ms := ok.2.2.1
    rcases hw with rfl | rfl
    · have u1 := mah_up hz rs x t
      have u2 := mah_up hz rs x (t + 1)
      have st := mah_step hz rs (x + ((t + 1 : Nat) : Int))
      rw [show x + ((t + 1 : Nat) : Int) - 1 = x + t by omega] at st
      simp only [pt, pp, Int.one_mul, if_true]
      rw [neg_abs (by omega), neg_abs (by omega)]
      have em : ((x + (t : Int)) % z + 1) % z = (x + ((t + 1 : Nat) : Int)) % z := by
        rw [Int.emod_add_emod]
        congr 1
        omega
      rw [em]
      by_cases hm : (x + ((t + 1 : Nat) : Int)) % z ∈ ms
      · rw [if_pos hm] at st ⊢
        rw [if_neg (by decide)]
        exact Prod.ext rfl (by show mah z ms _ - mah z ms x = mah z ms _ - mah z ms x + 1; omega)
      · rw [if_neg hm] at st ⊢
        rw [if_pos rfl]
        exact Prod.ext rfl (by show mah z ms _ - mah z ms x = mah z ms _ - mah z ms x + 0; omega)
    · have v1 := mah_up hz rs (x - t) t
      have v2 := mah_up hz rs (x - ((t + 1 : Nat) : Int)) (t + 1)
      have st := mah_step hz rs (x - t)
      rw [show x - t + t = x by omega] at v1
      rw [show x - ((t + 1 : Nat) : Int) + ((t + 1 : Nat) : Int) = x by omega] at v2
      simp only [pt, pp, show ∀ y : Int, x + -1 * y = x - y from fun y => by omega, if_neg (show ¬ (-1 : Int) = 1 by decide)]
      rw [abs_neg (by omega), abs_neg (by omega)]
      have em : ((x - (t : Int)) % z + -1) % z = (x - ((t + 1 : Nat) : Int)) % z := by
        rw [Int.emod_add_emod]
        congr 1
        omega
      rw [em]
      rw [show x - (t : Int) - 1 = x - ((t + 1 : Nat) : Int) by omega] at st
      by_cases hm : (x - (t : Int)) % z ∈ ms
      · rw [if_pos hm] at st ⊢
        rw [if_neg (by decide)]
        exact Prod.ext rfl (by show -(mah z ms _ - mah z ms x) = -(mah z ms _ - mah z ms x) + 1; omega)
      · rw [if_neg hm] at st ⊢
        rw [if_pos rfl]
        exact Prod.ext rfl (by show -(mah z ms _ - mah z ms x) = -(mah z ms _ - mah z ms x) + 0; omega)
  | click =>
    have h2 : x < 1 := h1
    have ex : x = 0 := by omega
    subst ex
    rcases hw with rfl | rfl
    · simp only [pt, pp, if_true]
      rw [if_neg (by decide)]
      exact Prod.ext rfl (by show ((t + 1 : Nat) : Int) = (t : Int) + 1; omega)
    · rfl
  | rocker =>
    have h2 : x < 2 := h1
    rcases hw with rfl | rfl
    · simp only [pt, pp, if_neg (show ¬ ((t + 1 : Nat) : Int) = 0 by omega), if_neg (show ¬ (1 : Int) = -1 by decide), if_true]
      by_cases ht : (t : Int) = 0
      · rw [if_pos ht]
        by_cases hx : x = 0
        · subst hx
          rfl
        · have hx1 : x = 1 := by omega
          subst hx1
          rfl
      · rw [if_neg ht]
        simp
    · simp only [pt, pp, if_neg (show ¬ ((t + 1 : Nat) : Int) = 0 by omega), if_true]
      by_cases ht : (t : Int) = 0
      · rw [if_pos ht]
        rfl
      · rw [if_neg ht]
        rfl
  | spring k =>
    have h2 : x < k := h1
    have hk : 1 ≤ k := ok.1
    rcases hw with rfl | rfl
    · simp only [pt, pp, if_neg (show ¬ (1 : Int) = -1 by decide), if_true]
      have e := Int.emod_add_mul_ediv (x + t) k
      have r0 := Int.emod_nonneg (x + t) (show k ≠ 0 by omega)
      have r1 := Int.emod_lt_of_pos (x + t) (show 0 < k by omega)
      by_cases hx : (x + (t : Int)) % k = k - 1
      · obtain ⟨e1, e2⟩ := (Int.ediv_emod_unique (a := x + ((t + 1 : Nat) : Int)) (b := k) (r := 0) (q := (x + t) / k + 1) (by omega)).mpr ⟨by rw [Int.mul_add]; omega, by omega, by omega⟩
        rw [if_pos hx, e1, e2]
        rfl
      · obtain ⟨e1, e2⟩ := (Int.ediv_emod_unique (a := x + ((t + 1 : Nat) : Int)) (b := k) (r := (x + t) % k + 1) (q := (x + t) / k) (by omega)).mpr ⟨by omega, by omega, by omega⟩
        rw [if_neg hx, e1, e2]
        exact Prod.ext rfl (by show (x + (t : Int)) / k = (x + (t : Int)) / k + 0; omega)
    · simp only [pt, pp, if_true, if_neg (show ¬ (-1 : Int) = 1 by decide)]
      refine Prod.ext ?_ rfl
      show (if x - ((t + 1 : Nat) : Int) > 0 then x - ((t + 1 : Nat) : Int) else 0) = (if (if x - (t : Int) > 0 then x - (t : Int) else 0) - 1 > 0 then (if x - (t : Int) > 0 then x - (t : Int) else 0) - 1 else 0)
      by_cases hx : x - (t : Int) > 0
      · rw [if_pos hx]
        split <;> split <;> omega
      · rw [if_neg hx]
        split <;> split <;> omega
theorem pt_nn {p : Part} {x w : Int} (ok : p.ok) (h0 : 0 ≤ x) (h1 : x < p.places) (hw : Sign w) : ∀ t : Nat, 0 ≤ (pt p x w t).2
  | 0 => by
    show 0 ≤ (pt p x w 0).2
    rw [pt_zero ok h0 h1]
    exact Int.le_refl _
  | t + 1 => by
    rw [pt_step ok h0 h1 hw t]
    have := pt_nn ok h0 h1 hw t
    show 0 ≤ (pt p x w t).2 + _
    split <;> omega
theorem pt_le {p : Part} {x w : Int} (ok : p.ok) (h0 : 0 ≤ x) (h1 : x < p.places) (hw : Sign w) : ∀ t : Nat, (pt p x w t).2 ≤ t
  | 0 => by
    show (pt p x w 0).2 ≤ 0
    rw [pt_zero ok h0 h1]
    exact Int.le_refl _
  | t + 1 => by
    rw [pt_step ok h0 h1 hw t]
    have := pt_le ok h0 h1 hw t
    show (pt p x w t).2 + _ ≤ _
    split <;> omega
theorem pp_place {p : Part} {x w : Int} (ok : p.ok) (h0 : 0 ≤ x) (h1 : x < p.places) (hw : Sign w) : 0 ≤ (pp p x w).1 ∧ (pp p x w).1 < p.places := by
  cases p with
  | wheel z ms =>
    have hz : 1 ≤ z := ok.1
    exact ⟨Int.emod_nonneg _ (by omega), Int.emod_lt_of_pos _ (by omega)⟩
  | click => exact ⟨Int.le_refl _, show (0 : Int) < 1 by decide⟩
  | rocker =>
    rcases hw with rfl | rfl
    · exact ⟨show (0 : Int) ≤ 1 by decide, show (1 : Int) < 2 by decide⟩
    · exact ⟨show (0 : Int) ≤ 0 by decide, show (0 : Int) < 2 by decide⟩
  | spring k =>
    have h2 : x < k := h1
    rcases hw with rfl | rfl
    · simp only [pp, if_true]
      by_cases e : x = k - 1
      · rw [if_pos e]
        exact ⟨Int.le_refl _, show (0 : Int) < k by omega⟩
      · rw [if_neg e]
        exact ⟨show 0 ≤ x + 1 by omega, show x + 1 < k by omega⟩
    · simp only [pp, if_neg (show ¬ (-1 : Int) = 1 by decide)]
      refine ⟨?_, ?_⟩
      · show 0 ≤ (if x - 1 > 0 then x - 1 else 0)
        split <;> omega
      · show (if x - 1 > 0 then x - 1 else 0) < k
        split <;> omega
theorem pt_place {p : Part} {x w : Int} (ok : p.ok) (h0 : 0 ≤ x) (h1 : x < p.places) (hw : Sign w) : ∀ t : Nat, 0 ≤ (pt p x w t).1 ∧ (pt p x w t).1 < p.places
  | 0 => by
    show 0 ≤ (pt p x w 0).1 ∧ (pt p x w 0).1 < p.places
    rw [pt_zero ok h0 h1]
    exact ⟨h0, h1⟩
  | t + 1 => by
    rw [pt_step ok h0 h1 hw t]
    obtain ⟨a, b⟩ := pt_place ok h0 h1 hw t
    exact pp_place ok a b hw
/-! along a train -/
def gen (f : Part → Int → Int → Int × Int) : List Part → List Int → Int → List Int × Int
  | p :: ps, x :: xs, a => ((f p x a).1 :: (gen f ps xs (f p x a).2).1, (gen f ps xs (f p x a).2).2)
  | _, xs, a => (xs, a)
def stF (f : Part → Int → Int → Int × Int) (ps : List Part) (s : List Int × Int) (n : Nat) : List Int × Int := match ps[n]?, s.1[n]? with
  | some p, some x => (s.1.set n (f p x s.2).1, (f p x s.2).2)
  | _, _ => s
def rnF (f : Part → Int → Int → Int × Int) (ps : List Part) (i : Nat) (s : List Int × Int) : Nat → List Int × Int
  | 0 => s
  | n + 1 => stF f ps (rnF f ps i s n) (i + n)
theorem stF_at {f : Part → Int → Int → Int × Int} {ps : List Part} {s : List Int × Int} {n : Nat} {p : Part} {x : Int} (hp : ps[n]? = some p) (hx : s.1[n]? = some x) : stF f ps s n = (s.1.set n (f p x s.2).1, (f p x s.2).2) := by
  unfold stF
  rw [hp, hx]
theorem rnF_first (f : Part → Int → Int → Int × Int) (ps : List Part) (i : Nat) (s : List Int × Int) : ∀ n, rnF f ps i s (n + 1) = rnF f ps (i + 1) (stF f ps s i) n
  | 0 => rfl
  | n + 1 => by
    show stF f ps (rnF f ps i s (n + 1)) (i + (n + 1)) = stF f ps (rnF f ps (i + 1) (stF f ps s i) n) (i + 1 + n)
    rw [rnF_first f ps i s n, show i + (n + 1) = i + 1 + n by omega]
theorem rnF_len (f : Part → Int → Int → Int × Int) (ps : List Part) (i : Nat) (s : List Int × Int) : ∀ n, (rnF f ps i s n).1.length = s.1.length
  | 0 => rfl
  | n + 1 => by
    show (stF f ps _ _).1.length = _
    rw [← rnF_len f ps i s n]
    unfold stF
    split
    · show (List.set _ _ _).length = _
      rw [List.length_set]
    · rfl
theorem rnF_ahead (f : Part → Int → Int → Int × Int) (ps : List Part) (i : Nat) (s : List Int × Int) : ∀ n m, i + n ≤ m → (rnF f ps i s n).1[m]? = s.1[m]?
  | 0, _, _ => rfl
  | n + 1, m, h => by
    rw [← rnF_ahead f ps i s n m (by omega)]
    show (stF f ps _ _).1[m]? = _
    unfold stF
    split
    · show (List.set _ _ _)[m]? = _
      rw [List.getElem?_set_ne (by omega)]
    · rfl
/-- places one by one, by number, or by going down the train -/
theorem rnF_gen (f : Part → Int → Int → Int × Int) (ps : List Part) : ∀ (n i : Nat) (xs : List Int) (a : Int), xs.length = ps.length → i + n = ps.length →
    rnF f ps i (xs, a) n = (xs.take i ++ (gen f (ps.drop i) (xs.drop i) a).1, (gen f (ps.drop i) (xs.drop i) a).2)
  | 0, i, xs, a, hl, hn => by
    have e1 : ps.drop i = [] := List.drop_of_length_le (by omega)
    have e2 : xs.drop i = [] := List.drop_of_length_le (by omega)
    rw [e1, e2]
    show (xs, a) = (xs.take i ++ [], a)
    rw [List.append_nil, List.take_of_length_le (by omega)]
  | n + 1, i, xs, a, hl, hn => by
    have hi : i < ps.length := by omega
    have hx : i < xs.length := by omega
    rw [rnF_first, stF_at (List.getElem?_eq_getElem hi) (List.getElem?_eq_getElem hx), rnF_gen f ps n (i + 1) _ _ (by rw [List.length_set]; exact hl) (by omega)]
    rw [List.drop_eq_getElem_cons hi, List.drop_eq_getElem_cons hx]
    show (List.take (i + 1) (xs.set i _) ++ (gen f _ (List.drop (i + 1) (xs.set i _)) _).1, _) = (xs.take i ++ ((f ps[i] xs[i] a).1 :: (gen f (ps.drop (i + 1)) (xs.drop (i + 1)) (f ps[i] xs[i] a).2).1), (gen f (ps.drop (i + 1)) (xs.drop (i + 1)) (f ps[i] xs[i] a).2).2)
    rw [List.drop_set_of_lt (by omega), show List.take (i + 1) (xs.set i (f ps[i] xs[i] a).1) = xs.take i ++ [(f ps[i] xs[i] a).1] by
      rw [List.take_set, List.take_add_one, List.getElem?_eq_getElem hx, List.set_append_right _ _ (by rw [List.length_take]; omega), List.length_take, show i - min i xs.length = 0 by omega]
      rfl, List.append_assoc]
    rfl
/-- a push that may be none -/
def ppz (p : Part) (x g : Int) : Int × Int := if g = 0 then (x, 0) else pp p x g
theorem stp_stF (ps : List Part) (s : List Int × Int) (n : Nat) : stp ps s n = stF ppz ps s n := by
  unfold stp stF
  split
  · rename_i h
    cases e1 : ps[n]? with
    | none => rfl
    | some p =>
      cases e2 : s.1[n]? with
      | none => rfl
      | some x =>
        obtain ⟨hn, hx⟩ := List.getElem?_eq_some_iff.mp e2
        show s = (s.1.set n (ppz p x s.2).1, (ppz p x s.2).2)
        unfold ppz
        rw [if_pos h]
        show s = (s.1.set n x, 0)
        rw [← hx, List.set_getElem_self, ← h]
  · rename_i h
    cases e1 : ps[n]? with
    | none => rfl
    | some p =>
      cases e2 : s.1[n]? with
      | none => rfl
      | some x =>
        show _ = (s.1.set n (ppz p x s.2).1, (ppz p x s.2).2)
        unfold ppz
        rw [if_neg h]
theorem runN_rnF (ps : List Part) (i : Nat) (s : List Int × Int) : ∀ n, runN ps i s n = rnF ppz ps i s n
  | 0 => rfl
  | n + 1 => by
    show stp ps _ _ = stF ppz ps _ _
    rw [stp_stF, runN_rnF ps i s n]
theorem run_gen {ps : List Part} {xs : List Int} {i : Nat} {w : Int} (hl : xs.length = ps.length) (hi : i ≤ ps.length) : Ct.run ps xs i w = (xs.take i ++ (gen ppz (ps.drop i) (xs.drop i) w).1, (gen ppz (ps.drop i) (xs.drop i) w).2) := by
  unfold Ct.run
  rw [runN_rnF, rnF_gen ppz ps _ _ _ _ hl (by omega)]
/-- pushes one by one -/
def itP (ps : List Part) (w : Int) : Nat → List Int → List Int × Int
  | 0, xs => (xs, 0)
  | t + 1, xs => ((gen ppz ps (itP ps w t xs).1 w).1, (itP ps w t xs).2 + (gen ppz ps (itP ps w t xs).1 w).2)
def ptw (w : Int) (p : Part) (x t : Int) : Int × Int := pt p x w t
theorem gen_ppz_zero : ∀ (ps : List Part) (xs : List Int), gen ppz ps xs 0 = (xs, 0)
  | [], _ => rfl
  | _ :: _, [] => rfl
  | p :: ps, x :: xs => by
    show ((ppz p x 0).1 :: (gen ppz ps xs (ppz p x 0).2).1, (gen ppz ps xs (ppz p x 0).2).2) = _
    rw [show ppz p x 0 = (x, 0) from rfl, gen_ppz_zero ps xs]
def StandL : List Part → List Int → Prop
  | [], [] => True
  | p :: ps, x :: xs => p.ok ∧ 0 ≤ x ∧ x < p.places ∧ StandL ps xs
  | _, _ => False
theorem itP_cons {p : Part} {x : Int} (ps : List Part) (xs : List Int) {w : Int} (ok : p.ok) (h0 : 0 ≤ x) (h1 : x < p.places) (hw : Sign w) : ∀ t : Nat,
    itP (p :: ps) w t (x :: xs) = ((pt p x w t).1 :: (itP ps w (pt p x w t).2.toNat xs).1, (itP ps w (pt p x w t).2.toNat xs).2)
  | 0 => by
    show (x :: xs, (0 : Int)) = ((pt p x w 0).1 :: (itP ps w (pt p x w 0).2.toNat xs).1, (itP ps w (pt p x w 0).2.toNat xs).2)
    rw [pt_zero ok h0 h1]
    rfl
  | t + 1 => by
    have w0 : w ≠ 0 := by rcases hw with rfl | rfl <;> decide
    have nn := pt_nn ok h0 h1 hw t
    show ((gen ppz (p :: ps) (itP (p :: ps) w t (x :: xs)).1 w).1, (itP (p :: ps) w t (x :: xs)).2 + (gen ppz (p :: ps) (itP (p :: ps) w t (x :: xs)).1 w).2) = _
    rw [itP_cons ps xs ok h0 h1 hw t, pt_step ok h0 h1 hw t]
    generalize hy : (pt p x w t).1 = y
    generalize hn : (pt p x w t).2 = n at nn
    show ((ppz p y w).1 :: (gen ppz ps (itP ps w n.toNat xs).1 (ppz p y w).2).1, (itP ps w n.toNat xs).2 + (gen ppz ps (itP ps w n.toNat xs).1 (ppz p y w).2).2) = _
    rw [show ppz p y w = pp p y w from if_neg w0]
    rcases pp_way p y w hw with e | e
    · rw [e, gen_ppz_zero, if_pos rfl]
      show ((pp p y w).1 :: (itP ps w n.toNat xs).1, (itP ps w n.toNat xs).2 + 0) = ((pp p y w).1 :: (itP ps w (n + 0).toNat xs).1, (itP ps w (n + 0).toNat xs).2)
      rw [Int.add_zero, Int.add_zero]
    · rw [e, if_neg w0]
      show ((pp p y w).1 :: (gen ppz ps (itP ps w n.toNat xs).1 w).1, (itP ps w n.toNat xs).2 + (gen ppz ps (itP ps w n.toNat xs).1 w).2) = ((pp p y w).1 :: (itP ps w (n + 1).toNat xs).1, (itP ps w (n + 1).toNat xs).2)
      rw [show (n + 1).toNat = n.toNat + 1 by omega]
      rfl
theorem itP_nil (w : Int) : ∀ (t : Nat), itP [] w t [] = ([], w * t)
  | 0 => by
    show (([] : List Int), (0 : Int)) = ([], w * ((0 : Nat) : Int))
    rw [show ((0 : Nat) : Int) = 0 from rfl, Int.mul_zero]
  | t + 1 => by
    show ((gen ppz [] (itP [] w t []).1 w).1, (itP [] w t []).2 + (gen ppz [] (itP [] w t []).1 w).2) = _
    rw [itP_nil w t]
    refine Prod.ext rfl ?_
    show w * t + w = w * ((t + 1 : Nat) : Int)
    rw [show ((t + 1 : Nat) : Int) = (t : Int) + 1 by omega, Int.mul_add, Int.mul_one]
/-- THE promise: reckoned at once is as pushed one by one -/
theorem itP_gen {w : Int} (hw : Sign w) : ∀ (ps : List Part) (xs : List Int) (t : Nat), StandL ps xs → itP ps w t xs = ((gen (ptw w) ps xs t).1, w * (gen (ptw w) ps xs t).2)
  | [], [], t, _ => itP_nil w t
  | p :: ps, x :: xs, t, ⟨ok, h0, h1, h⟩ => by
    rw [itP_cons ps xs ok h0 h1 hw t, itP_gen hw ps xs _ h]
    have nn := pt_nn ok h0 h1 hw t
    show _ = ((pt p x w t).1 :: (gen (ptw w) ps xs (pt p x w t).2).1, w * (gen (ptw w) ps xs (pt p x w t).2).2)
    rw [show (((pt p x w t).2.toNat : Nat) : Int) = (pt p x w t).2 by omega]
theorem gen_stand {w : Int} (hw : Sign w) : ∀ (ps : List Part) (xs : List Int) (t : Int), 0 ≤ t → StandL ps xs → StandL ps (gen (ptw w) ps xs t).1 ∧ 0 ≤ (gen (ptw w) ps xs t).2
  | [], [], t, ht, _ => ⟨trivial, ht⟩
  | p :: ps, x :: xs, t, ht, ⟨ok, h0, h1, h⟩ => by
    have e : ((t.toNat : Nat) : Int) = t := by omega
    have a := pt_place ok h0 h1 hw t.toNat
    have n := pt_nn ok h0 h1 hw t.toNat
    rw [e] at a n
    have ih := gen_stand hw ps xs (pt p x w t).2 n h
    exact ⟨⟨ok, a.1, a.2, ih.1⟩, ih.2⟩
theorem stand_drop : ∀ {ps : List Part} {xs : List Int} (i : Nat), StandL ps xs → StandL (ps.drop i) (xs.drop i)
  | [], [], i, _ => by rw [List.drop_nil, List.drop_nil]; trivial
  | p :: ps, x :: xs, 0, h => h
  | p :: ps, x :: xs, i + 1, ⟨_, _, _, h⟩ => stand_drop (ps := ps) (xs := xs) i h
theorem stand_join : ∀ {ps : List Part} {xs ys : List Int} (i : Nat), StandL ps xs → StandL (ps.drop i) ys → StandL ps (xs.take i ++ ys)
  | ps, xs, ys, 0, _, h => h
  | [], [], ys, i + 1, _, h => by
    rw [List.drop_nil] at h
    exact h
  | p :: ps, x :: xs, ys, i + 1, ⟨a, b, c, d⟩, h => ⟨a, b, c, stand_join (ps := ps) (xs := xs) i d h⟩
theorem StandL.len : ∀ {ps : List Part} {xs : List Int}, StandL ps xs → xs.length = ps.length
  | [], [], _ => rfl
  | p :: ps, x :: xs, ⟨_, _, _, h⟩ => by rw [List.length_cons, List.length_cons, StandL.len (ps := ps) (xs := xs) h]
theorem StandL.okp : ∀ {ps : List Part} {xs : List Int}, StandL ps xs → ∀ p ∈ ps, p.ok
  | [], [], _, p, hp => by cases hp
  | a :: ps, x :: xs, ⟨h, _, _, hr⟩, p, hp => by
    rcases List.mem_cons.mp hp with rfl | hp
    · exact h
    · exact StandL.okp (ps := ps) (xs := xs) hr p hp
theorem standL_of : ∀ {ps : List Part} {xs : List Int}, (∀ p ∈ ps, p.ok) → StandOk ps xs → StandL ps xs
  | [], [], _, _ => trivial
  | [], _ :: _, _, h => by have := h.1; simp at this
  | _ :: _, [], _, h => by have := h.1; simp at this
  | p :: ps, x :: xs, hp, h => by
    have a := h.2 0 p x rfl rfl
    exact ⟨hp p List.mem_cons_self, a.1, a.2, standL_of (fun q hq => hp q (List.mem_cons_of_mem _ hq)) ⟨by have := h.1; rw [List.length_cons, List.length_cons] at this; omega, fun i q y hq hy => h.2 (i + 1) q y hq hy⟩⟩
theorem StandL.ok : ∀ {ps : List Part} {xs : List Int}, StandL ps xs → StandOk ps xs
  | [], [], _ => ⟨rfl, fun i p x h _ => by simp at h⟩
  | p :: ps, x :: xs, ⟨_, a, b, h⟩ => by
    have ih := StandL.ok (ps := ps) (xs := xs) h
    refine ⟨by rw [List.length_cons, List.length_cons, ih.1], fun i q y hq hy => ?_⟩
    cases i with
    | zero =>
      cases Option.some.inj hq
      cases Option.some.inj hy
      exact ⟨a, b⟩
    | succ i => exact ih.2 i q y hq hy
/-! rows -/
structure Deed where
  i : Nat
  w : Int
  t : Nat
def Deed.ok (d : Deed) (n : Nat) : Prop := d.i < n ∧ Sign d.w
def Deed.data (d : Deed) : PyData := .tuple [.int d.i, .int d.w, .int d.t]
/-- one deed, at once -/
def deedL (ps : List Part) (xs : List Int) (d : Deed) : List Int × Int := (xs.take d.i ++ (gen (ptw d.w) (ps.drop d.i) (xs.drop d.i) d.t).1, d.w * (gen (ptw d.w) (ps.drop d.i) (xs.drop d.i) d.t).2)
def rowL (ps : List Part) : List Deed → List Int × Int → List Int × Int
  | [], s => s
  | d :: ds, s => rowL ps ds ((deedL ps s.1 d).1, s.2 + (deedL ps s.1 d).2)
theorem rowL_app (ps : List Part) : ∀ (ds es : List Deed) (s : List Int × Int), rowL ps (ds ++ es) s = rowL ps es (rowL ps ds s)
  | [], _, _ => rfl
  | d :: ds, es, s => rowL_app ps ds es _
theorem deedL_stand {ps : List Part} {xs : List Int} {d : Deed} (h : StandL ps xs) (hd : d.ok ps.length) : StandL ps (deedL ps xs d).1 :=
  stand_join d.i h (gen_stand hd.2 _ _ d.t (by omega) (stand_drop d.i h)).1
theorem rowL_stand {ps : List Part} : ∀ {ds : List Deed} {s : List Int × Int}, StandL ps s.1 → (∀ d ∈ ds, d.ok ps.length) → StandL ps (rowL ps ds s).1
  | [], _, h, _ => h
  | d :: ds, s, h, hd => rowL_stand (ds := ds) (deedL_stand h (hd d List.mem_cons_self)) fun e he => hd e (List.mem_cons_of_mem _ he)
/-- a deed, push by push: each push goes along the train from part i -/
def pushes (ps : List Part) (i : Nat) (w : Int) : Nat → List Int × Int → List Int × Int
  | 0, s => s
  | t + 1, s => ((Ct.run ps (pushes ps i w t s).1 i w).1, (pushes ps i w t s).2 + (Ct.run ps (pushes ps i w t s).1 i w).2)
theorem pushes_itP {ps : List Part} {xs : List Int} {i : Nat} {w : Int} (hl : xs.length = ps.length) (hi : i ≤ ps.length) (a : Int) : ∀ t, pushes ps i w t (xs, a) = (xs.take i ++ (itP (ps.drop i) w t (xs.drop i)).1, a + (itP (ps.drop i) w t (xs.drop i)).2) ∧ (itP (ps.drop i) w t (xs.drop i)).1.length = ps.length - i
  | 0 => by
    refine ⟨Prod.ext ?_ ?_, ?_⟩
    · show xs = xs.take i ++ xs.drop i
      rw [List.take_append_drop]
    · show a = a + 0
      omega
    · show (xs.drop i).length = _
      rw [List.length_drop, hl]
  | t + 1 => by
    obtain ⟨ih, il⟩ := pushes_itP hl hi a t
    have tl : (xs.take i).length = i := by rw [List.length_take]; omega
    have gl : ∀ (qs : List Part) (ys : List Int) (g : Int), (gen ppz qs ys g).1.length = ys.length := fun qs => by
      induction qs with
      | nil => intro ys g; rfl
      | cons q qs ih =>
        intro ys g
        cases ys with
        | nil => rfl
        | cons y ys =>
          show ((ppz q y g).1 :: (gen ppz qs ys (ppz q y g).2).1).length = _
          rw [List.length_cons, List.length_cons, ih]
    refine ⟨?_, ?_⟩
    · show ((Ct.run ps (pushes ps i w t (xs, a)).1 i w).1, (pushes ps i w t (xs, a)).2 + (Ct.run ps (pushes ps i w t (xs, a)).1 i w).2) = _
      rw [ih]
      rw [run_gen (by show (xs.take i ++ _).length = _; rw [List.length_append, tl, il]; omega) hi]
      show (List.take i (xs.take i ++ _) ++ (gen ppz (ps.drop i) (List.drop i (xs.take i ++ _)) w).1, a + _ + (gen ppz (ps.drop i) (List.drop i (xs.take i ++ _)) w).2) = _
      rw [List.take_left' tl, List.drop_left' tl]
      refine Prod.ext rfl ?_
      show a + (itP (ps.drop i) w t (xs.drop i)).2 + (gen ppz (ps.drop i) (itP (ps.drop i) w t (xs.drop i)).1 w).2 = a + ((itP (ps.drop i) w t (xs.drop i)).2 + (gen ppz (ps.drop i) (itP (ps.drop i) w t (xs.drop i)).1 w).2)
      omega
    · show (gen ppz (ps.drop i) (itP (ps.drop i) w t (xs.drop i)).1 w).1.length = _
      rw [gl, il]
theorem pushes_deed {ps : List Part} {xs : List Int} {d : Deed} (h : StandL ps xs) (hd : d.ok ps.length) (a : Int) : pushes ps d.i d.w d.t (xs, a) = ((deedL ps xs d).1, a + (deedL ps xs d).2) := by
  rw [(pushes_itP h.len (Nat.le_of_lt hd.1) a d.t).1, itP_gen hd.2 _ _ _ (stand_drop d.i h)]
  rfl
theorem pushes_stand {ps : List Part} {xs : List Int} {i : Nat} {w : Int} (h : StandL ps xs) (hi : i < ps.length) (hw : Sign w) (a : Int) (t : Nat) : StandL ps (pushes ps i w t (xs, a)).1 := by
  have := deedL_stand (d := ⟨i, w, t⟩) h ⟨hi, hw⟩
  rw [pushes_deed (d := ⟨i, w, t⟩) h ⟨hi, hw⟩ a]
  exact this
section
variable {K : PySem.W.Frag} {H : Hp}
theorem deed_inv {v : V} {d : Deed} (h : Dp K H v d.data) : ∃ a, v = .ref a ∧ SqT K H a [.int d.i, .int d.w, .int d.t] := by
  obtain ⟨a, vs, rfl, hs, ht⟩ := tup_inv h
  cases ht with
  | cons h1 t1 => cases h1; cases t1 with
    | cons h2 t2 => cases h2; cases t2 with
      | cons h3 t3 => cases h3; cases t3; exact ⟨a, rfl, hs⟩
theorem deed_dp {a : Addr} {d : Deed} (h : SqT K H a [.int d.i, .int d.w, .int d.t]) : Dp K H (.ref a) d.data := .tup h (.cons (.int _) (.cons (.int _) (.cons (.int _) .nil)))
theorem deeds_upd {l : Addr} {ws : List V} {o : HO} (hl : H l = some (.lst ws)) : ∀ {vs : List V} (ds : List Deed), DpAll K H vs (ds.map Deed.data) → DpAll K (upd H l o) vs (ds.map Deed.data)
  | _, [], .nil => .nil
  | _, d :: r, .cons h t => by
    obtain ⟨a, rfl, ha⟩ := deed_inv h
    exact .cons (deed_dp (sqT_upd ha hl)) (deeds_upd hl r t)
def RowAt (K : PySem.W.Frag) (H : Hp) (a : Addr) (ds : List Deed) : Prop := ∃ vs, SqL K H a vs ∧ DpAll K H vs (ds.map Deed.data)
theorem RowAt.same {H' : Hp} {a : Addr} {ds : List Deed} (e : Same H H') (h : RowAt K H a ds) : RowAt K H' a ds := by
  obtain ⟨vs, h1, h2⟩ := h
  exact ⟨vs, e.seq h1, dpAll_same e h2⟩
theorem deed_get {ds : List Deed} {vs : List V} (h2 : DpAll K H vs (ds.map Deed.data)) {i : Nat} {d : Deed} (e : ds[i]? = some d) : ∃ v, vs[i]? = some v ∧ Dp K H v d.data :=
  dpAll_get h2 (by rw [List.getElem?_map, e]; rfl)
end
theorem lay_deed (d : Deed) : d.data.canLay0 = true ∧ d.data.depth ≤ 1 := lay_tup (n := 0) (lay_ints [(d.i : Int), d.w, (d.t : Int)] 0)
theorem lay_row (ds : List Deed) : (PyData.list (ds.map Deed.data)).canLay0 = true ∧ (PyData.list (ds.map Deed.data)).depth ≤ 2 := lay_lst fun d hd => by
  obtain ⟨e, _, rfl⟩ := List.mem_map.mp hd
  exact lay_deed e
/-! what the checks look at -/
def isW : PyData → Bool
  | .int _ => true
  | _ => false
def risesD (last z : Int) : List PyData → Bool
  | [] => true
  | .int m :: r => if m ≤ last ∨ z ≤ m then false else risesD m z r
  | _ :: _ => false
def areM (d : PyData) (z : Int) : Bool := match d with
  | .tuple ds => risesD (-1) z ds
  | _ => false
def wheelT : List PyData → Bool
  | [.int z, m] => decide (1 ≤ z) && areM m z
  | _ => false
def springT : List PyData → Bool
  | [.int k] => decide (1 ≤ k)
  | _ => false
def isP : PyData → Bool
  | .tuple (h :: t) =>
    if PyData.eqv h (.str "wheel") = true then wheelT t
    else if PyData.eqv h (.str "spring") = true then springT t
    else PyData.eqv (.tuple (h :: t)) (.tuple [.str "click"]) || PyData.eqv (.tuple (h :: t)) (.tuple [.str "rocker"])
  | _ => false
theorem rises_of : ∀ {ms : List Int} {last z : Int}, ms.Pairwise (· < ·) → (∀ m ∈ ms, last < m ∧ m < z) → risesD last z (ms.map PyData.int) = true
  | [], _, _, _, _ => rfl
  | m :: ms, last, z, h, hm => by
    obtain ⟨h1, h2⟩ := List.pairwise_cons.mp h
    have hm1 := hm m List.mem_cons_self
    show (if m ≤ last ∨ z ≤ m then false else risesD m z (ms.map PyData.int)) = true
    rw [if_neg (by omega)]
    exact rises_of h2 fun x hx => ⟨h1 x hx, (hm x (List.mem_cons_of_mem _ hx)).2⟩
theorem isP_of {p : Part} (ok : p.ok) : isP p.data = true := by
  cases p with
  | wheel z ms =>
    simp only [isP, Part.data, wheelT, areM]
    rw [if_pos (by decide +kernel), decide_eq_true ok.1, rises_of ok.2.2.1.1 fun m hm => ?_]
    · rfl
    · have := ok.2.2.1.2 m hm
      omega
  | click => decide +kernel
  | rocker => decide +kernel
  | spring k =>
    simp only [isP, Part.data, springT]
    rw [if_neg (by decide +kernel), if_pos (by decide +kernel)]
    exact decide_eq_true ok.1
def isD (d : PyData) (n : Int) : Bool := match d with
  | .tuple [.int i, .int w, .int t] => decide (0 ≤ i) && decide (i < n) && (decide (w = 1) || decide (w = -1)) && decide (0 ≤ t)
  | _ => false
theorem dpAll_drop {K : PySem.W.Frag} {H : Hp} : ∀ {vs : List V} {ds : List PyData} (k : Nat), DpAll K H vs ds → DpAll K H (vs.drop k) (ds.drop k)
  | _, _, 0, h => h
  | _, _, _ + 1, .nil => .nil
  | _, _, k + 1, .cons _ t => dpAll_drop k t
theorem dpAll_take {K : PySem.W.Frag} {H : Hp} : ∀ {vs : List V} {ds : List PyData} (k : Nat), DpAll K H vs ds → DpAll K H (vs.take k) (ds.take k)
  | _, _, 0, _ => .nil
  | _, _, _ + 1, .nil => .nil
  | _, _, k + 1, .cons h t => .cons h (dpAll_take k t)
theorem dpAll_cut {K : PySem.W.Frag} {H : Hp} {vs : List V} {ds : List Deed} (lo hi : Option Int) (h : DpAll K H vs (ds.map Deed.data)) : ∃ es : List Deed, DpAll K H (cutV vs lo hi) (es.map Deed.data) ∧ ∀ d ∈ es, d ∈ ds := by
  refine ⟨(ds.drop (HT.sIx vs.length 0 lo)).take (HT.sIx vs.length vs.length hi - HT.sIx vs.length 0 lo), ?_, fun d hd => List.mem_of_mem_drop (List.mem_of_mem_take hd)⟩
  rw [List.map_take, List.map_drop]
  exact dpAll_take _ (dpAll_drop _ h)
/-! how often each mark is met -/
def wsum (z : Int) : List Int → Int → Int
  | [], _ => 0
  | m :: r, y => (y - m) / z + wsum z r y
theorem wsum_app (z y : Int) : ∀ (ms : List Int) (m : Int), wsum z (ms ++ [m]) y = wsum z ms y + (y - m) / z
  | [], m => by
    show (y - m) / z + 0 = 0 + (y - m) / z
    omega
  | a :: r, m => by
    show (y - a) / z + wsum z (r ++ [m]) y = (y - a) / z + wsum z r y + (y - m) / z
    rw [wsum_app z y r m]
    omega
theorem wsum_mah {z : Int} (hz : 1 ≤ z) (y : Int) : ∀ {ms : List Int}, (∀ m ∈ ms, 0 ≤ m ∧ m < z) → wsum z ms y = mah z ms y - ms.length
  | [], _ => by
    show (0 : Int) = y / z * ((0 : Nat) : Int) + 0 - ((0 : Nat) : Int)
    rw [show ((0 : Nat) : Int) = 0 from rfl, Int.mul_zero]
    rfl
  | m :: r, h => by
    have hm := h m List.mem_cons_self
    have ih := wsum_mah hz y (ms := r) fun x hx => h x (List.mem_cons_of_mem _ hx)
    have e := Int.emod_add_mul_ediv y z
    have r0 := Int.emod_nonneg y (show z ≠ 0 by omega)
    have r1 := Int.emod_lt_of_pos y (show 0 < z by omega)
    show (y - m) / z + wsum z r y = _
    rw [ih]
    unfold mah
    rw [cnt_cons, List.length_cons, show ((r.length + 1 : Nat) : Int) = (r.length : Int) + 1 by omega, Int.mul_add, Int.mul_one]
    by_cases hmr : m ≤ y % z
    · obtain ⟨e1, _⟩ := (Int.ediv_emod_unique (a := y - m) (b := z) (r := y % z - m) (q := y / z) (by omega)).mpr ⟨by omega, by omega, by omega⟩
      rw [e1, if_pos hmr]
      omega
    · obtain ⟨e1, _⟩ := (Int.ediv_emod_unique (a := y - m) (b := z) (r := y % z - m + z) (q := y / z - 1) (by omega)).mpr ⟨by rw [Int.mul_sub]; omega, by omega, by omega⟩
      rw [e1, if_neg hmr]
      omega
theorem wsum_up {z : Int} {ms : List Int} {x : Int} (ok : (Part.wheel z ms).ok) (t : Nat) : wsum z ms (x + t) - wsum z ms x = (pt (.wheel z ms) x 1 t).2 := by
  have rs : Rise z ms := ok.2.2.1
  have u := mah_up ok.1 rs x t
  rw [wsum_mah ok.1 _ rs.2, wsum_mah ok.1 _ rs.2]
  simp only [pt, Int.one_mul]
  rw [neg_abs (by omega)]
  omega
theorem wsum_down {z : Int} {ms : List Int} {x : Int} (ok : (Part.wheel z ms).ok) (t : Nat) : wsum z ms x - wsum z ms (x - t) = (pt (.wheel z ms) x (-1) t).2 := by
  have rs : Rise z ms := ok.2.2.1
  have u := mah_up ok.1 rs (x - t) t
  rw [show x - (t : Int) + t = x by omega] at u
  rw [wsum_mah ok.1 _ rs.2, wsum_mah ok.1 _ rs.2]
  simp only [pt, show x + -1 * (t : Int) = x - t by omega]
  rw [abs_neg (by omega)]
  omega
/-! a deed in two -/
theorem pushes_add (ps : List Part) (i : Nat) (w : Int) (a : Nat) (s : List Int × Int) : ∀ b, pushes ps i w (a + b) s = pushes ps i w b (pushes ps i w a s)
  | 0 => rfl
  | b + 1 => by
    show ((Ct.run ps (pushes ps i w (a + b) s).1 i w).1, (pushes ps i w (a + b) s).2 + (Ct.run ps (pushes ps i w (a + b) s).1 i w).2) = _
    rw [pushes_add ps i w a s b]
    rfl
theorem rowL_one {ps : List Part} {s : List Int × Int} {d : Deed} (h : StandL ps s.1) (hd : d.ok ps.length) : rowL ps [d] s = pushes ps d.i d.w d.t s := (pushes_deed h hd s.2).symm
def halves : List Deed → List Deed
  | [] => []
  | d :: r => ⟨d.i, d.w, d.t / 2⟩ :: ⟨d.i, d.w, d.t - d.t / 2⟩ :: halves r
theorem halves_app : ∀ (ds es : List Deed), halves (ds ++ es) = halves ds ++ halves es
  | [], _ => rfl
  | d :: r, es => by
    show _ :: _ :: halves (r ++ es) = _ :: _ :: (halves r ++ halves es)
    rw [halves_app r es]
theorem halves_ok {n : Nat} {b : Nat} : ∀ {ds : List Deed}, (∀ d ∈ ds, d.ok n ∧ d.t < b) → ∀ d ∈ halves ds, d.ok n ∧ d.t < b
  | [], _, d, hd => by cases hd
  | e :: r, h, d, hd => by
    have he := h e List.mem_cons_self
    rcases List.mem_cons.mp hd with rfl | hd
    · exact ⟨he.1, Nat.lt_of_le_of_lt (Nat.div_le_self _ _) he.2⟩
    rcases List.mem_cons.mp hd with rfl | hd
    · exact ⟨he.1, Nat.lt_of_le_of_lt (Nat.sub_le _ _) he.2⟩
    · exact halves_ok (fun d hd => h d (List.mem_cons_of_mem _ hd)) d hd
theorem rowL_halves {ps : List Part} : ∀ {ds : List Deed} {s : List Int × Int}, StandL ps s.1 → (∀ d ∈ ds, d.ok ps.length) → rowL ps (halves ds) s = rowL ps ds s
  | [], _, _, _ => rfl
  | d :: r, s, h, hd => by
    have hd0 := hd d List.mem_cons_self
    have k1 : Deed.ok ⟨d.i, d.w, d.t / 2⟩ ps.length := hd0
    have k2 : Deed.ok ⟨d.i, d.w, d.t - d.t / 2⟩ ps.length := hd0
    show rowL ps ([⟨d.i, d.w, d.t / 2⟩] ++ ([⟨d.i, d.w, d.t - d.t / 2⟩] ++ halves r)) s = rowL ps ([d] ++ r) s
    have h1 : StandL ps (rowL ps [⟨d.i, d.w, d.t / 2⟩] s).1 := rowL_stand h fun e he => by rw [List.mem_singleton] at he; rw [he]; exact k1
    have h2 : StandL ps (rowL ps [⟨d.i, d.w, d.t - d.t / 2⟩] (rowL ps [⟨d.i, d.w, d.t / 2⟩] s)).1 := rowL_stand h1 fun e he => by rw [List.mem_singleton] at he; rw [he]; exact k2
    rw [rowL_app, rowL_app, rowL_app, rowL_halves h2 fun e he => hd e (List.mem_cons_of_mem _ he)]
    rw [rowL_one h1 k2, rowL_one h k1, rowL_one h hd0, ← pushes_add, show d.t / 2 + (d.t - d.t / 2) = d.t by omega]
theorem run_deed {ps : List Part} {xs : List Int} {i : Nat} {w : Int} (h : StandL ps xs) (hi : i < ps.length) (hw : Sign w) : deedL ps xs ⟨i, w, 1⟩ = Ct.run ps xs i w := by
  have e : ((Ct.run ps xs i w).1, 0 + (Ct.run ps xs i w).2) = ((deedL ps xs ⟨i, w, 1⟩).1, 0 + (deedL ps xs ⟨i, w, 1⟩).2) := pushes_deed (d := ⟨i, w, 1⟩) h ⟨hi, hw⟩ 0
  obtain ⟨e1, e2⟩ := Prod.mk.inj e
  exact Prod.ext e1.symm (by omega)
theorem rowL_snoc (ps : List Part) (ds : List Deed) (d : Deed) (s : List Int × Int) : rowL ps (ds ++ [d]) s = ((deedL ps (rowL ps ds s).1 d).1, (rowL ps ds s).2 + (deedL ps (rowL ps ds s).1 d).2) := rowL_app ps ds [d] s
theorem told_dp {K : PySem.W.Frag} {H : Hp} {q u : Addr} {xs : List Int} {y : Int} (h : SqT K H q [.ref u, .int y]) (hu : SqT K H u (xs.map V.int)) : Dp K H (.ref q) (.tuple [.tuple (xs.map PyData.int), .int y]) :=
  .tup h (.cons (.tup hu (dpAll_ints xs)) (.cons (.int y) .nil))
end Ct

namespace Ct
open PySem PySem.Spec PyProof.Rows L2
/-! all stands of a train -/
theorem ip_mul {X : Cx} : PIp X .Mult (rI CMul fun i j => .int (i * j)) := iop_mul
def rowS (s : List Int) (k : Nat) : List (List Int) := (List.range k).map fun (x : Nat) => s ++ [(x : Int)]
def grow (ss : List (List Int)) (p : Part) : List (List Int) := ss.flatMap fun s => rowS s p.places.toNat
def allS (ps : List Part) : List (List Int) := ps.foldl grow [[]]
def tupD (s : List Int) : PyData := .tuple (s.map PyData.int)
theorem rowS_len (s : List Int) (k : Nat) : (rowS s k).length = k := by
  unfold rowS
  rw [List.length_map, List.length_range]
theorem rowS_succ (s : List Int) (k : Nat) : rowS s (k + 1) = rowS s k ++ [s ++ [(k : Int)]] := by
  unfold rowS
  rw [List.range_succ, List.map_append]
  rfl
theorem flat_len (k : Nat) : ∀ ss : List (List Int), (ss.flatMap fun s => rowS s k).length = ss.length * k
  | [] => by simp
  | s :: r => by
    rw [List.flatMap_cons, List.length_append, rowS_len, flat_len k r, List.length_cons, Nat.add_mul, Nat.one_mul]
    omega
theorem allS_snoc (ps : List Part) (p : Part) : allS (ps ++ [p]) = grow (allS ps) p := by
  unfold allS
  rw [List.foldl_append]
  rfl
theorem allS_take {ps : List Part} {n : Nat} {p : Part} (h : ps[n]? = some p) : allS (ps.take (n + 1)) = grow (allS (ps.take n)) p := by
  rw [List.take_add_one, h]
  exact allS_snoc _ _
theorem stands_take {ps : List Part} {n : Nat} {p : Part} (h : ps[n]? = some p) : stands (ps.take (n + 1)) = stands (ps.take n) * p.places := by
  rw [List.take_add_one, h]
  exact stands_app _ _
theorem allS_len {ps : List Part} (hok : ∀ p ∈ ps, p.ok) : ∀ n, n ≤ ps.length → ((allS (ps.take n)).length : Int) = stands (ps.take n)
  | 0, _ => rfl
  | n + 1, hn => by
    obtain ⟨p, hp⟩ : ∃ p, ps[n]? = some p := ⟨_, List.getElem?_eq_getElem (by omega)⟩
    have po := (hok p (List.mem_of_getElem? hp)).pos.1
    rw [allS_take hp, stands_take hp, ← allS_len hok n (by omega)]
    unfold grow
    rw [flat_len, Int.natCast_mul, Int.toNat_of_nonneg (by omega)]
theorem stands_le {ps : List Part} (hok : ∀ p ∈ ps, p.ok) : ∀ n, n ≤ ps.length → stands (ps.take (ps.length - n)) ≤ stands ps
  | 0, _ => by
    rw [Nat.sub_zero, List.take_length]
    exact Int.le_refl _
  | n + 1, hn => by
    have ih := stands_le hok n (by omega)
    obtain ⟨p, hp⟩ : ∃ p, ps[ps.length - (n + 1)]? = some p := ⟨_, List.getElem?_eq_getElem (by omega)⟩
    have po := (hok p (List.mem_of_getElem? hp)).pos.1
    have e := stands_take hp
    rw [show ps.length - (n + 1) + 1 = ps.length - n by omega] at e
    have sp := stands_pos (ps.take (ps.length - (n + 1))) fun q hq => hok q (List.mem_of_mem_take hq)
    rw [e] at ih
    have := Int.mul_le_mul_of_nonneg_left po (show 0 ≤ stands (ps.take (ps.length - (n + 1))) by omega)
    omega
theorem stands_le' {ps : List Part} (hok : ∀ p ∈ ps, p.ok) {n : Nat} (hn : n ≤ ps.length) : stands (ps.take n) ≤ stands ps := by
  have := stands_le hok (ps.length - n) (by omega)
  rw [show ps.length - (ps.length - n) = n by omega] at this
  exact this
theorem place_le {ps : List Part} (hok : ∀ p ∈ ps, p.ok) {n : Nat} {p : Part} (hp : ps[n]? = some p) : p.places ≤ stands ps := by
  have hn : n < ps.length := (List.getElem?_eq_some_iff.mp hp).1
  have po := (hok p (List.mem_of_getElem? hp)).pos.1
  have h3 := stands_le' hok (n := n + 1) hn
  have sp := stands_pos (ps.take n) fun q hq => hok q (List.mem_of_mem_take hq)
  rw [stands_take hp] at h3
  have := Int.mul_le_mul_of_nonneg_right sp (show 0 ≤ p.places by omega)
  omega
theorem fold_each {k : Nat} : ∀ (ps : List Part) (ss : List (List Int)), (∀ s ∈ ss, s.length = k) → ∀ s ∈ ps.foldl grow ss, s.length = k + ps.length
  | [], ss, h, s, hs => h s hs
  | p :: ps, ss, h, s, hs => by
    have := fold_each (k := k + 1) ps (grow ss p) (fun t ht => by
      obtain ⟨u, hu, hr⟩ := List.mem_flatMap.mp ht
      obtain ⟨x, _, rfl⟩ := List.mem_map.mp hr
      rw [List.length_append, h u hu]
      rfl) s hs
    rw [List.length_cons]
    omega
theorem allS_each (ps : List Part) (s : List Int) (h : s ∈ allS ps) : s.length = ps.length := by
  have := fold_each (k := 0) ps [[]] (fun t ht => by rw [List.mem_singleton] at ht; rw [ht]; rfl) s h
  omega
theorem grow_le {ps : List Part} (hok : ∀ p ∈ ps, p.ok) {n : Nat} {p : Part} (hp : ps[n]? = some p) {i : Nat} : (((allS (ps.take n)).take i).flatMap fun s => rowS s p.places.toNat).length ≤ (stands ps).toNat := by
  have hn : n < ps.length := (List.getElem?_eq_some_iff.mp hp).1
  have h1 : (((allS (ps.take n)).take i).flatMap fun s => rowS s p.places.toNat).length ≤ (grow (allS (ps.take n)) p).length := by
    unfold grow
    rw [flat_len, flat_len, List.length_take]
    exact Nat.mul_le_mul_right _ (Nat.min_le_right _ _)
  rw [← allS_take hp] at h1
  have h2 := allS_len hok (n + 1) hn
  have h3 := stands_le' hok (n := n + 1) hn
  omega
section
variable {K : PySem.W.Frag} {H : Hp}
theorem tupD_inv {v : V} {s : List Int} (h : Dp K H v (tupD s)) : ∃ a, v = .ref a ∧ SqT K H a (s.map V.int) := by
  obtain ⟨a, vs, rfl, hs, ht⟩ := tup_inv h
  cases dpAll_ints_inv s ht
  exact ⟨a, rfl, hs⟩
theorem tupD_dp {a : Addr} {s : List Int} (h : SqT K H a (s.map V.int)) : Dp K H (.ref a) (tupD s) := .tup h (dpAll_ints s)
theorem tups_upd {l : Addr} {ws : List V} {o : HO} (hl : H l = some (.lst ws)) : ∀ {vs : List V} (ss : List (List Int)), DpAll K H vs (ss.map tupD) → DpAll K (upd H l o) vs (ss.map tupD)
  | _, [], .nil => .nil
  | _, s :: r, .cons h t => by
    obtain ⟨a, rfl, ha⟩ := tupD_inv h
    exact .cons (tupD_dp (sqT_upd ha hl)) (tups_upd hl r t)
theorem tup_get {ss : List (List Int)} {vs : List V} (h2 : DpAll K H vs (ss.map tupD)) {i : Nat} {s : List Int} (e : ss[i]? = some s) : ∃ a, vs[i]? = some (.ref a) ∧ SqT K H a (s.map V.int) := by
  obtain ⟨v, hv, hd⟩ := dpAll_get h2 (d := tupD s) (by rw [List.getElem?_map, e]; rfl)
  obtain ⟨a, rfl, ha⟩ := tupD_inv hd
  exact ⟨a, hv, ha⟩
end
theorem lay_tupD (s : List Int) : (tupD s).canLay0 = true ∧ (tupD s).depth ≤ 1 := lay_tup (lay_ints s 0)
theorem lay_tups (ss : List (List Int)) : (PyData.list (ss.map tupD)).canLay0 = true ∧ (PyData.list (ss.map tupD)).depth ≤ 2 := lay_lst fun d hd => by
  obtain ⟨s, _, rfl⟩ := List.mem_map.mp hd
  exact lay_tupD s
theorem stands_rev : ∀ ps : List Part, stands ps.reverse = stands ps
  | [] => rfl
  | p :: r => by
    rw [List.reverse_cons, stands_app, stands_rev r]
    exact Int.mul_comm _ _
theorem dpAll_rev {K : PySem.W.Frag} {H : Hp} : ∀ {vs : List V} {ds : List PyData}, DpAll K H vs ds → DpAll K H vs.reverse ds.reverse
  | _, _, .nil => .nil
  | _, _, .cons h t => by
    rw [List.reverse_cons, List.reverse_cons]
    exact dpAll_app (dpAll_rev t) (.cons h .nil)
/-! two fors in one list -/
section
variable {K : PySem.W.Frag} {H : Hp} {σ : L2.St} {Q : VK}
def LB2 (J : It) (g : TG) (tt : TT) (wi1 : TI) (g1 : TG) (tt1 : TT) (te : TE) (vs vs1 : List Nat) (σ : L2.St) (H : Hp) (Q : VK) : Prop := tLc2 (fun _ H R => R J H) g tt wi1 g1 tt1 te vs vs1 σ H Q
theorem w_lc2 {wi wi1 : TI} {g g1 : TG} {tt tt1 : TT} {te : TE} {vs vs1 : List Nat} (h : wi σ H fun J H1 => LB2 J g tt wi1 g1 tt1 te vs vs1 σ H1 Q) : tLc2 wi g tt wi1 g1 tt1 te vs vs1 σ H Q := h
/-- the inner loop, from which Nx is reached -/
def IB (J : It) (g : TG) (tt : TT) (te : TE) (vs : List Nat) (D : Addr) (σ : L2.St) (H : Hp) (Nx : Hp → Prop) : Prop :=
  ∃ U : Nat → Nat → Hp → Prop, (∃ m, U 0 m H) ∧
    ∀ j k H, U j k H → (J.stop j H ∧ Nx H) ∨
      (J.go j H ∧ ∃ Z : Hp → Prop, (∀ H', Z H' → ∃ k', k' < k ∧ U (j + 1) k' H') ∧
        ∀ x H', J.yld j H x H' →
          g x (wipe σ vs) H' fun σ3 H5 => wipe σ3 vs = wipe σ vs ∧ tt σ3 H5 fun b H6 =>
            if b = true then te σ3 H6 fun y H7 => ∃ acc, H7 D = some (.lst acc) ∧ acc.length < sizeLine ∧ Z (upd H7 D (.lst (acc ++ [y]))) else Z H6)
theorem ib_range {lo : Int} {n : Nat} {g : TG} {tt : TT} {te : TE} {vs : List Nat} {D : Addr} {Nx : Hp → Prop} (Pi : Nat → Hp → Prop) (h0 : Pi 0 H)
    (hs : ∀ j H, j < n → Pi j H → g (.int (lo + j)) (wipe σ vs) H fun σ3 H5 => wipe σ3 vs = wipe σ vs ∧ tt σ3 H5 fun b H6 =>
      if b = true then te σ3 H6 fun y H7 => ∃ acc, H7 D = some (.lst acc) ∧ acc.length < sizeLine ∧ Pi (j + 1) (upd H7 D (.lst (acc ++ [y]))) else Pi (j + 1) H6) (hd : ∀ H, Pi n H → Nx H) : IB (Itr lo n) g tt te vs D σ H Nx := by
  refine ⟨fun j k H => k = n - j ∧ j ≤ n ∧ Pi j H, ⟨n, rfl, Nat.zero_le _, h0⟩, ?_⟩
  rintro j k H ⟨rfl, hj, p⟩
  by_cases hlt : j < n
  · refine .inr ⟨hlt, Pi (j + 1), fun H' p' => ⟨n - (j + 1), by omega, rfl, hlt, p'⟩, fun x H' y => ?_⟩
    obtain ⟨e1, e2⟩ := y
    subst e1 e2
    exact hs j _ hlt p
  · have e : j = n := by omega
    subst e
    exact .inl ⟨Nat.le_refl _, hd H p⟩
theorem lb2_list {a : Addr} (xs : List V) {wi1 : TI} {g g1 : TG} {tt tt1 : TT} {te : TE} {vs vs1 : List Nat} (Pv : Addr → Nat → Hp → Prop) (h0 : ∀ D, H D = none → Pv D 0 (upd H D (.lst []))) (hl : ∀ D, H D = none → ∀ i H1, i ≤ xs.length → Pv D i H1 → SqL K H1 a xs)
    (hs : ∀ D, H D = none → ∀ i x H1, xs[i]? = some x → Pv D i H1 → g x (wipe σ vs) H1 fun σ2 H2 => wipe σ2 vs = wipe σ vs ∧ tt σ2 H2 fun b H3 =>
      if b = true then wi1 σ2 H3 fun J1 H4 => IB J1 g1 tt1 te vs1 D σ2 H4 (Pv D (i + 1)) else Pv D (i + 1) H3) (hd : ∀ D, H D = none → ∀ H1, Pv D xs.length H1 → Q (.ref D) H1) : LB2 (Itl K a) g tt wi1 g1 tt1 te vs vs1 σ H Q := by
  intro D hD
  refine ⟨fun i m H1 => m = xs.length - i ∧ i ≤ xs.length ∧ Pv D i H1, ⟨xs.length, rfl, Nat.zero_le _, h0 D hD⟩, ?_⟩
  rintro i m H1 ⟨rfl, hi, p⟩
  have q := hl D hD i H1 hi p
  by_cases hlt : i < xs.length
  · refine .inr ⟨⟨xs, _, q, List.getElem?_eq_getElem hlt⟩, Pv D (i + 1), fun H' p' => ⟨xs.length - (i + 1), by omega, rfl, hlt, p'⟩, fun x H' y => ?_⟩
    obtain ⟨e, y⟩ := y
    subst e
    exact hs D hD i x _ (y xs q) p
  · have e : i = xs.length := by omega
    subst e
    exact .inl ⟨⟨xs, q, Nat.le_refl _⟩, hd D hD H1 p⟩
theorem w_star {te : TE} {t : TA} {QA : List V → Hp → Prop} (h : te σ H fun x H1 => ∃ p xs, x = V.ref p ∧ (SqT K H1 p xs ∨ SqL K H1 p xs) ∧ t σ H1 fun ys H2 => QA (xs ++ ys) H2) : StX.tStar K te t σ H QA := h
theorem lb_tup {a : Addr} (xs : List V) {g : TG} {tt : TT} {te : TE} {vs : List Nat} (Pv : Addr → Nat → Hp → Prop) (h0 : ∀ D, H D = none → Pv D 0 (upd H D (.lst []))) (hl : ∀ D, H D = none → ∀ i H1, i ≤ xs.length → Pv D i H1 → SqT K H1 a xs)
    (hs : ∀ D, H D = none → ∀ i x H1, xs[i]? = some x → Pv D i H1 → g x (wipe σ vs) H1 fun σ2 H2 => wipe σ2 vs = wipe σ vs ∧ tt σ2 H2 fun b H3 =>
      if b = true then te σ2 H3 fun y H4 => ∃ acc, H4 D = some (.lst acc) ∧ acc.length < sizeLine ∧ Pv D (i + 1) (upd H4 D (.lst (acc ++ [y]))) else Pv D (i + 1) H3) (hd : ∀ D, H D = none → ∀ H1, Pv D xs.length H1 → Q (.ref D) H1) : LB (Itt K a) g tt te vs σ H Q :=
  fun D hD => lc_tup (Pv D) (h0 D hD) (hl D hD) (hs D hD) (hd D hD)
theorem w_revL {te : TE} (h : te σ H fun x H1 => ∃ a xs, x = .ref a ∧ SqL K H1 a xs ∧ ∀ p, H1 p = none → Q (.ref p) (upd H1 p (.lst xs.reverse))) : tRevL K te σ H Q := h
end
end Ct
namespace Ct
open PySem PySem.Spec PyProof.Rows L2
theorem w_catA {K : PySem.W.Frag} {H : Hp} {Q : VK} {a b : Addr} {xs ys : List V} (ha : SqT K H a xs) (hb : SqT K H b ys) (l : xs.length + ys.length ≤ 1000) (q : ∀ u H', Same H H' → SqT K H' u (xs ++ ys) → Q (.ref u) H') : rCatA K (.ref a) (.ref b) H Q := by
  refine ⟨a, b, xs, ys, rfl, rfl, ha, hb, Nat.le_of_lt (small1000 l), fun hx => ?_, fun _ hy => ?_, fun _ _ p np => ?_⟩
  · refine q b H (Same.refl H) ?_
    rw [hx, List.nil_append]
    exact hb
  · refine q a H (Same.refl H) ?_
    rw [hy, List.append_nil]
    exact ha
  · exact q p _ (same_upd np) (.of upd_same)
end Ct
namespace Ct
open PySem PySem.Spec PyProof.Rows L2
theorem standL_app : ∀ {ps qs : List Part} {xs ys : List Int}, StandL ps xs → StandL qs ys → StandL (ps ++ qs) (xs ++ ys)
  | [], _, [], _, _, h => h
  | _ :: _, _, _ :: _, _, ⟨a, b, c, d⟩, h => ⟨a, b, c, standL_app d h⟩
end Ct
namespace Ct
open PySem PySem.Spec PyProof.Rows L2
/-! signs fed to a train -/
def isSg : PyData → Bool
  | .int i => decide (i ∈ [(1 : Int), -1, 0])
  | _ => false
theorem isSg_of {s : Int} (h : s = 0 ∨ Sign s) : isSg (.int s) = true := by
  rcases h with h | h | h <;> rw [h] <;> decide
theorem run_zero (ps : List Part) (xs : List Int) (i : Nat) : Ct.run ps xs i 0 = (xs, 0) := by
  unfold Ct.run
  have z := runN_zero (ps := ps) (i := i) (s := (xs, 0)) (n := 0) rfl (ps.length - i)
  rw [Nat.zero_add] at z
  exact z
theorem run_stand {ps : List Part} {xs : List Int} {i : Nat} {w : Int} (h : StandL ps xs) (hi : i < ps.length) (hw : w = 0 ∨ Sign w) : StandL ps (Ct.run ps xs i w).1 := by
  rcases hw with e | e
  · rw [e, run_zero]
    exact h
  · rw [← run_deed h hi e]
    exact deedL_stand h ⟨hi, e⟩
def fedS (ps : List Part) : List Int → List Int → List Int × List Int
  | xs, [] => (xs, [])
  | xs, s :: r => ((fedS ps (Ct.run ps xs 0 s).1 r).1, (Ct.run ps xs 0 s).2 :: (fedS ps (Ct.run ps xs 0 s).1 r).2)
theorem fedS_snoc (ps : List Part) (s : Int) : ∀ (ss : List Int) (xs : List Int), fedS ps xs (ss ++ [s]) = ((Ct.run ps (fedS ps xs ss).1 0 s).1, (fedS ps xs ss).2 ++ [(Ct.run ps (fedS ps xs ss).1 0 s).2])
  | [], xs => rfl
  | a :: r, xs => by
    rw [List.cons_append, fedS, fedS_snoc ps s r, fedS]
    rfl
theorem fedS_take {ps : List Part} {ss : List Int} {k : Nat} {s : Int} (xs : List Int) (h : ss[k]? = some s) : fedS ps xs (ss.take (k + 1)) = ((Ct.run ps (fedS ps xs (ss.take k)).1 0 s).1, (fedS ps xs (ss.take k)).2 ++ [(Ct.run ps (fedS ps xs (ss.take k)).1 0 s).2]) := by
  rw [← fedS_snoc, List.take_add_one, h]
  rfl
theorem fedS_stand {ps : List Part} (h1 : 1 ≤ ps.length) : ∀ {ss : List Int} {xs : List Int}, StandL ps xs → (∀ s ∈ ss, s = 0 ∨ Sign s) → StandL ps (fedS ps xs ss).1
  | [], _, h, _ => h
  | s :: r, _, h, hs => fedS_stand (ss := r) h1 (run_stand h h1 (hs s List.mem_cons_self)) fun t ht => hs t (List.mem_cons_of_mem s ht)
theorem fedS_len (ps : List Part) : ∀ (ss : List Int) (xs : List Int), (fedS ps xs ss).2.length = ss.length
  | [], _ => rfl
  | s :: r, xs => by
    rw [fedS, List.length_cons, List.length_cons, fedS_len ps r]
end Ct
namespace Ct
open PySem PySem.Spec PyProof.Rows L2
theorem fold_mem : ∀ (ps : List Part) (ss : List (List Int)) (xs : List Int), (∀ p ∈ ps, p.ok) → (xs ∈ ps.foldl grow ss ↔ ∃ s ∈ ss, ∃ ys, xs = s ++ ys ∧ StandL ps ys)
  | [], ss, xs, _ => by
    constructor
    · intro h
      exact ⟨xs, h, [], (List.append_nil xs).symm, trivial⟩
    · rintro ⟨s, hs, ys, rfl, hy⟩
      cases ys with
      | nil => rw [List.append_nil]; exact hs
      | cons _ _ => exact nomatch hy
  | p :: ps, ss, xs, ok => by
    have po := (ok p List.mem_cons_self).pos.1
    rw [List.foldl_cons, fold_mem ps (grow ss p) xs fun q hq => ok q (List.mem_cons_of_mem _ hq)]
    constructor
    · rintro ⟨s', hs', ys, rfl, hy⟩
      obtain ⟨s, hs, hin⟩ := List.mem_flatMap.mp hs'
      obtain ⟨k, hk, rfl⟩ := List.mem_map.mp hin
      rw [List.mem_range] at hk
      exact ⟨s, hs, (k : Int) :: ys, by rw [List.append_assoc]; rfl, ok p List.mem_cons_self, by omega, by omega, hy⟩
    · rintro ⟨s, hs, ys, rfl, hy⟩
      cases ys with
      | nil => exact nomatch hy
      | cons y ys =>
        obtain ⟨_, y0, y1, hy⟩ := hy
        refine ⟨s ++ [y], List.mem_flatMap.mpr ⟨s, hs, List.mem_map.mpr ⟨y.toNat, List.mem_range.mpr (by omega), by rw [Int.toNat_of_nonneg y0]⟩⟩, ys, by rw [List.append_assoc]; rfl, hy⟩
theorem allS_mem {ps : List Part} (ok : ∀ p ∈ ps, p.ok) (xs : List Int) : xs ∈ allS ps ↔ StandL ps xs := by
  rw [allS, fold_mem ps [[]] xs ok]
  constructor
  · rintro ⟨s, hs, ys, rfl, hy⟩
    rw [List.mem_singleton] at hs
    rw [hs]
    exact hy
  · intro h
    exact ⟨[], List.mem_singleton.mpr rfl, xs, rfl, h⟩
/-! one-way trains -/
def gvb : Part → Bool
  | .wheel _ ms => decide (0 < ms.length)
  | _ => false
theorem pp_back {p : Part} {x w : Int} (hw : Sign w) (h : (pp p x w).2 = -1) : w = -1 ∧ gvb p = true := by
  have e := pp_way p x w hw
  rw [h] at e
  have hw1 : w = -1 := by
    rcases e with e | e
    · exact absurd e (by decide)
    · exact e.symm
  refine ⟨hw1, ?_⟩
  subst hw1
  cases p with
  | wheel z ms =>
    have h : (if (if (-1 : Int) = 1 then (x + -1) % z else x) ∈ ms then (-1 : Int) else 0) = -1 := h
    by_cases e2 : (if (-1 : Int) = 1 then (x + -1) % z else x) ∈ ms
    · exact decide_eq_true (List.length_pos_of_mem e2)
    · rw [if_neg e2] at h
      exact absurd h (by decide)
  | click => exact absurd (show (if (-1 : Int) = 1 then (1 : Int) else 0) = -1 from h) (by decide)
  | rocker =>
    have h : (if (-1 : Int) = 1 ∧ x = 0 then (1 : Int) else 0) = -1 := h
    rw [if_neg (by intro z; exact absurd z.1 (by decide))] at h
    exact absurd h (by decide)
  | spring k => exact absurd (show (0 : Int) = -1 from h) (by decide)
/-- what is shown below nought comes through all parts -/
theorem gen_back : ∀ {ps : List Part} {xs : List Int} {w : Int}, w = 0 ∨ Sign w → xs.length = ps.length → (gen ppz ps xs w).2 = -1 → w = -1 ∧ ps.all gvb = true
  | [], [], w, _, _, h => ⟨h, rfl⟩
  | p :: ps, x :: xs, w, hw, hl, h => by
    have hl' : xs.length = ps.length := Nat.succ.inj hl
    have h' : (gen ppz ps xs (ppz p x w).2).2 = -1 := h
    have hz : (ppz p x w).2 = 0 ∨ Sign (ppz p x w).2 := by
      unfold ppz
      split
      · exact .inl rfl
      · rename_i e
        exact pp_sign p x w (hw.resolve_left e)
    obtain ⟨h1, h2⟩ := gen_back hz hl' h'
    have e : w ≠ 0 := fun z => by
      rw [show ppz p x w = (x, 0) from if_pos z] at h1
      exact absurd (show (0 : Int) = -1 from h1) (by decide)
    unfold ppz at h1
    rw [if_neg e] at h1
    obtain ⟨h3, h4⟩ := pp_back (hw.resolve_left e) h1
    exact ⟨h3, by rw [List.all_cons, h4, h2]; rfl⟩
/-- a stand at which each wheel stands at a mark -/
def atMarks : List Part → List Int
  | [] => []
  | .wheel _ (m :: _) :: r => m :: atMarks r
  | _ :: r => 0 :: atMarks r
theorem marks_back : ∀ {ps : List Part}, (∀ p ∈ ps, p.ok) → ps.all gvb = true → StandL ps (atMarks ps) ∧ (gen ppz ps (atMarks ps) (-1)).2 = -1
  | [], _, _ => ⟨trivial, rfl⟩
  | .wheel z (m :: ms) :: r, ok, h => by
    rw [List.all_cons, Bool.and_eq_true] at h
    have o := ok _ List.mem_cons_self
    obtain ⟨h1, h2⟩ := marks_back (fun p hp => ok p (List.mem_cons_of_mem _ hp)) h.2
    have hm := o.2.2.1.2 m List.mem_cons_self
    refine ⟨⟨o, hm.1, hm.2, h1⟩, ?_⟩
    show (gen ppz r (atMarks r) (ppz (.wheel z (m :: ms)) m (-1)).2).2 = -1
    rw [show (ppz (.wheel z (m :: ms)) m (-1)).2 = -1 from if_pos List.mem_cons_self]
    exact h2
  | .wheel z [] :: r, _, h => by
    rw [List.all_cons, Bool.and_eq_true] at h
    exact absurd (show false = true from h.1) (by decide)
  | .click :: r, _, h => by
    rw [List.all_cons, Bool.and_eq_true] at h
    exact absurd h.1 (by decide)
  | .rocker :: r, _, h => by
    rw [List.all_cons, Bool.and_eq_true] at h
    exact absurd h.1 (by decide)
  | .spring k :: r, _, h => by
    rw [List.all_cons, Bool.and_eq_true] at h
    exact absurd (show false = true from h.1) (by decide)
theorem run_back {ps : List Part} {xs : List Int} {w : Int} (hl : xs.length = ps.length) (hw : Sign w) (h : (Ct.run ps xs 0 w).2 = -1) : w = -1 ∧ ps.all gvb = true := by
  rw [run_gen hl (Nat.zero_le _)] at h
  exact gen_back (.inr hw) hl h
theorem run_marks {ps : List Part} (ok : ∀ p ∈ ps, p.ok) (h : ps.all gvb = true) : StandL ps (atMarks ps) ∧ (Ct.run ps (atMarks ps) 0 (-1)).2 = -1 := by
  obtain ⟨h1, h2⟩ := marks_back ok h
  refine ⟨h1, ?_⟩
  rw [run_gen h1.len (Nat.zero_le _)]
  exact h2
/-! worn teeth -/
def offMark (ms : List Int) (m : Int) : List Int := ms.filter fun k => !decide (k = m)
def wornP (ps : List Part) : Option (Nat × Int) → List Part
  | none => ps
  | some (i, m) => match ps[i]? with
    | some (.wheel z ms) => ps.set i (.wheel z (offMark ms m))
    | _ => ps
theorem offMark_ok {z : Int} {ms : List Int} {m : Int} (h : (Part.wheel z ms).ok) : (Part.wheel z (offMark ms m)).ok :=
  ⟨h.1, h.2.1, ⟨h.2.2.1.1.filter _, fun k hk => h.2.2.1.2 k (List.mem_filter.mp hk).1⟩, Nat.le_trans (List.length_filter_le _ _) h.2.2.2⟩
theorem wornP_ok {ps : List Part} (h : ∀ p ∈ ps, p.ok) (w : Option (Nat × Int)) : ∀ p ∈ wornP ps w, p.ok := by
  unfold wornP
  split
  · exact h
  · split
    · rename_i i m z ms e
      intro p hp
      rcases List.mem_or_eq_of_mem_set hp with hp | hp
      · exact h p hp
      · rw [hp]
        exact offMark_ok (h _ (List.mem_of_getElem? e))
    · exact h
theorem wornP_len (ps : List Part) (w : Option (Nat × Int)) : (wornP ps w).length = ps.length := by
  unfold wornP
  split
  · rfl
  · split
    · rw [List.length_set]
    · rfl
/-- a wear as it is handed in -/
def WearAt (K : PySem.W.Frag) (H : Hp) (v : V) : Option (Nat × Int) → Prop
  | none => v = .non
  | some (i, m) => ∃ g, v = .ref g ∧ SqT K H g [.int i, .int m]
end Ct
namespace Ct
open PySem PySem.Spec PyProof.Rows L2
theorem dpAll_set {K : PySem.W.Frag} {H : Hp} : ∀ {vs : List V} {ds : List PyData} {i : Nat} {v : V} {d : PyData}, DpAll K H vs ds → Dp K H v d → DpAll K H (vs.set i v) (ds.set i d)
  | _, _, _, _, _, .nil, _ => .nil
  | _, _, 0, _, _, .cons _ t, h => .cons h t
  | _, _, _ + 1, _, _, .cons a t, h => .cons a (dpAll_set t h)
theorem WearAt.same {K : PySem.W.Frag} {H H' : Hp} {v : V} {w : Option (Nat × Int)} (s : Same H H') (h : WearAt K H v w) : WearAt K H' v w := by
  cases w with
  | none => exact h
  | some im =>
    obtain ⟨g, e, hg⟩ := h
    exact ⟨g, e, Same.tup s hg⟩
end Ct
namespace Ct
open PySem PySem.Spec PyProof.Rows L2
/-! trains behind one another -/
theorem gen_app (f : Part → Int → Int → Int × Int) (qs : List Part) (ys : List Int) : ∀ (ps : List Part) (xs : List Int) (a : Int), xs.length = ps.length →
    gen f (ps ++ qs) (xs ++ ys) a = ((gen f ps xs a).1 ++ (gen f qs ys (gen f ps xs a).2).1, (gen f qs ys (gen f ps xs a).2).2)
  | [], [], _, _ => rfl
  | p :: ps, x :: xs, a, h => by
    have ih := gen_app f qs ys ps xs (f p x a).2 (Nat.succ.inj h)
    show ((f p x a).1 :: (gen f (ps ++ qs) (xs ++ ys) (f p x a).2).1, (gen f (ps ++ qs) (xs ++ ys) (f p x a).2).2) = _
    rw [ih]
    rfl
theorem run0 {ps : List Part} {xs : List Int} (w : Int) (hx : xs.length = ps.length) : Ct.run ps xs 0 w = gen ppz ps xs w := by
  rw [run_gen hx (Nat.zero_le _)]
  rfl
theorem run_len (ps : List Part) (xs : List Int) (w : Int) : (Ct.run ps xs 0 w).1.length = xs.length := runN_len ps 0 (xs, w) _
theorem run_app {ps qs : List Part} {xs ys : List Int} (w : Int) (hx : xs.length = ps.length) (hy : ys.length = qs.length) :
    Ct.run (ps ++ qs) (xs ++ ys) 0 w = ((Ct.run ps xs 0 w).1 ++ (Ct.run qs ys 0 (Ct.run ps xs 0 w).2).1, (Ct.run qs ys 0 (Ct.run ps xs 0 w).2).2) := by
  rw [run0 w (by rw [List.length_append, List.length_append, hx, hy]), gen_app ppz qs ys ps xs w hx, run0 w hx, run0 _ hy]
theorem run_sg {ps : List Part} {xs : List Int} {w : Int} (hw : w = 0 ∨ Sign w) : (Ct.run ps xs 0 w).2 = 0 ∨ Sign (Ct.run ps xs 0 w).2 := by
  rcases hw with e | e
  · rw [e, run_zero]
    exact .inl rfl
  · exact runN_sign ps 0 (xs, w) e _
theorem fedS_sg {ps : List Part} : ∀ {ss : List Int} {xs : List Int}, (∀ s ∈ ss, s = 0 ∨ Sign s) → ∀ s ∈ (fedS ps xs ss).2, s = 0 ∨ Sign s
  | [], _, _, _, h => by cases h
  | s :: r, xs, hs, t, h => by
    rcases List.mem_cons.mp h with h | h
    · rw [h]
      exact run_sg (hs s List.mem_cons_self)
    · exact fedS_sg (ss := r) (fun u hu => hs u (List.mem_cons_of_mem s hu)) t h
theorem fedS_len1 (ps : List Part) : ∀ (ss : List Int) (xs : List Int), (fedS ps xs ss).1.length = xs.length
  | [], _ => rfl
  | s :: r, xs => by rw [fedS, fedS_len1 ps r, run_len]
theorem fed_app {ps qs : List Part} : ∀ {ss : List Int} {xs ys : List Int}, xs.length = ps.length → ys.length = qs.length →
    fedS (ps ++ qs) (xs ++ ys) ss = ((fedS ps xs ss).1 ++ (fedS qs ys (fedS ps xs ss).2).1, (fedS qs ys (fedS ps xs ss).2).2)
  | [], _, _, _, _ => rfl
  | s :: r, xs, ys, hx, hy => by
    have ih := fed_app (ss := r) (xs := (Ct.run ps xs 0 s).1) (ys := (Ct.run qs ys 0 (Ct.run ps xs 0 s).2).1) (by rw [run_len, hx]) (by rw [run_len, hy])
    rw [fedS, run_app s hx hy, fedS]
    show ((fedS (ps ++ qs) ((Ct.run ps xs 0 s).1 ++ (Ct.run qs ys 0 (Ct.run ps xs 0 s).2).1) r).1, (Ct.run qs ys 0 (Ct.run ps xs 0 s).2).2 :: (fedS (ps ++ qs) ((Ct.run ps xs 0 s).1 ++ (Ct.run qs ys 0 (Ct.run ps xs 0 s).2).1) r).2) = _
    rw [ih]
    rfl
theorem gen_nought {w : Int} : ∀ {ps : List Part} {xs : List Int}, StandL ps xs → gen (ptw w) ps xs 0 = (xs, 0)
  | [], [], _ => rfl
  | p :: ps, x :: xs, h => by
    obtain ⟨ok, x0, x1, hr⟩ := h
    show ((ptw w p x 0).1 :: (gen (ptw w) ps xs (ptw w p x 0).2).1, (gen (ptw w) ps xs (ptw w p x 0).2).2) = _
    rw [show ptw w p x 0 = (x, 0) from pt_zero ok x0 x1, gen_nought hr]
theorem gen_upto {w : Int} (hw : Sign w) : ∀ {ps : List Part} {xs : List Int} {t : Int}, 0 ≤ t → StandL ps xs → 0 ≤ (gen (ptw w) ps xs t).2 ∧ (gen (ptw w) ps xs t).2 ≤ t
  | [], [], t, h, _ => ⟨h, Int.le_refl _⟩
  | p :: ps, x :: xs, t, h, hs => by
    obtain ⟨ok, x0, x1, hr⟩ := hs
    have e : ((t.toNat : Nat) : Int) = t := Int.toNat_of_nonneg h
    have h1 := pt_nn ok x0 x1 hw t.toNat
    have h2 := pt_le ok x0 x1 hw t.toNat
    rw [e] at h1 h2
    have ih := gen_upto (ps := ps) (xs := xs) (t := (ptw w p x t).2) hw h1 hr
    exact ⟨ih.1, Int.le_trans ih.2 h2⟩
/-- a deed at a part of the first train: what it gives comes to the second one -/
theorem deed_front {ps qs : List Part} {xs ys : List Int} {d : Deed} (hx : StandL ps xs) (hy : StandL qs ys) (hd : d.ok ps.length) {w' : Int} {t' : Nat} (hw' : w' = if (deedL ps xs d).2 < 0 then -1 else 1) (ht' : (t' : Int) = if (deedL ps xs d).2 < 0 then -(deedL ps xs d).2 else (deedL ps xs d).2) :
    t' ≤ d.t ∧ deedL (ps ++ qs) (xs ++ ys) d = ((deedL ps xs d).1 ++ (deedL qs ys ⟨0, w', t'⟩).1, (deedL qs ys ⟨0, w', t'⟩).2) := by
  have hl := hx.len
  have e1 : (xs ++ ys).take d.i = xs.take d.i := List.take_append_of_le_length (by have := hd.1; omega)
  have e2 : (xs ++ ys).drop d.i = xs.drop d.i ++ ys := List.drop_append_of_le_length (by have := hd.1; omega)
  have e3 : (ps ++ qs).drop d.i = ps.drop d.i ++ qs := List.drop_append_of_le_length (by have := hd.1; omega)
  have hg := gen_upto (t := (d.t : Int)) hd.2 (by omega) (stand_drop d.i hx)
  have ga := gen_app (ptw d.w) qs ys (ps.drop d.i) (xs.drop d.i) d.t (by rw [List.length_drop, List.length_drop, hl])
  unfold deedL at hw' ht' ⊢
  rw [e1, e2, e3, ga]
  generalize gen (ptw d.w) (ps.drop d.i) (xs.drop d.i) d.t = r at *
  have hw' : w' = if d.w * r.2 < 0 then -1 else 1 := hw'
  have ht' : (t' : Int) = if d.w * r.2 < 0 then -(d.w * r.2) else d.w * r.2 := ht'
  have et : (t' : Int) = r.2 := by
    rcases hd.2 with e | e <;> rw [e] at ht' <;> split at ht' <;> omega
  refine ⟨by omega, ?_⟩
  show (xs.take d.i ++ (r.1 ++ (gen (ptw d.w) qs ys r.2).1), d.w * (gen (ptw d.w) qs ys r.2).2) = ((xs.take d.i ++ r.1) ++ ([] ++ (gen (ptw w') qs ys (t' : Int)).1), w' * (gen (ptw w') qs ys (t' : Int)).2)
  rw [et, List.nil_append, List.append_assoc]
  by_cases h0 : r.2 = 0
  · rw [h0, gen_nought hy, gen_nought hy, Int.mul_zero, Int.mul_zero]
  · have ew : w' = d.w := by
      rcases hd.2 with e | e <;> rw [e] at hw' ⊢ <;> rw [hw'] <;> split <;> omega
    rw [ew]
theorem deed_behind {ps qs : List Part} {xs ys : List Int} {d : Deed} {j : Nat} (hx : xs.length = ps.length) (hi : d.i = ps.length + j) : deedL (ps ++ qs) (xs ++ ys) d = (xs ++ (deedL qs ys ⟨j, d.w, d.t⟩).1, (deedL qs ys ⟨j, d.w, d.t⟩).2) := by
  unfold deedL
  rw [hi]
  have e1 : (xs ++ ys).take (ps.length + j) = xs ++ ys.take j := by rw [← hx, List.take_length_add_append]
  have e2 : (xs ++ ys).drop (ps.length + j) = ys.drop j := by rw [← hx, List.drop_length_add_append]
  have e3 : (ps ++ qs).drop (ps.length + j) = qs.drop j := by rw [List.drop_length_add_append]
  rw [e1, e2, e3, List.append_assoc]
end Ct

namespace Ct
open PySem PySem.Spec PyProof.Rows L2
/-! a row done often -/
def itR (ps : List Part) (ds : List Deed) : Nat → List Int → List Int × Int
  | 0, xs => (xs, 0)
  | n + 1, xs => ((rowL ps ds ((itR ps ds n xs).1, 0)).1, (itR ps ds n xs).2 + (rowL ps ds ((itR ps ds n xs).1, 0)).2)
theorem itR_stand {ps : List Part} {ds : List Deed} {xs : List Int} (h : StandL ps xs) (hd : ∀ d ∈ ds, d.ok ps.length) : ∀ n, StandL ps (itR ps ds n xs).1
  | 0 => h
  | n + 1 => rowL_stand (s := ((itR ps ds n xs).1, 0)) (itR_stand h hd n) hd
theorem itR_round {ps : List Part} {ds : List Deed} {xs : List Int} {j k : Nat} (e : (itR ps ds j xs).1 = (itR ps ds k xs).1) : ∀ m, (itR ps ds (k + m) xs).1 = (itR ps ds (j + m) xs).1 ∧ (itR ps ds (k + m) xs).2 - (itR ps ds (j + m) xs).2 = (itR ps ds k xs).2 - (itR ps ds j xs).2
  | 0 => ⟨e.symm, rfl⟩
  | m + 1 => by
    obtain ⟨h1, h2⟩ := itR_round e m
    show (rowL ps ds ((itR ps ds (k + m) xs).1, 0)).1 = (rowL ps ds ((itR ps ds (j + m) xs).1, 0)).1 ∧ (itR ps ds (k + m) xs).2 + (rowL ps ds ((itR ps ds (k + m) xs).1, 0)).2 - ((itR ps ds (j + m) xs).2 + (rowL ps ds ((itR ps ds (j + m) xs).1, 0)).2) = _
    rw [h1]
    exact ⟨rfl, by omega⟩
theorem itR_rounds {ps : List Part} {ds : List Deed} {xs : List Int} {j k : Nat} (hjk : j ≤ k) (e : (itR ps ds j xs).1 = (itR ps ds k xs).1) (m : Nat) : ∀ r : Nat, itR ps ds (j + m + r * (k - j)) xs = ((itR ps ds (j + m) xs).1, (itR ps ds (j + m) xs).2 + (r : Int) * ((itR ps ds k xs).2 - (itR ps ds j xs).2))
  | 0 => by
    rw [Nat.zero_mul, Nat.add_zero, show ((0 : Nat) : Int) = 0 from rfl, Int.zero_mul, Int.add_zero]
  | r + 1 => by
    have ih := itR_rounds hjk e m r
    have hr := itR_round e (m + r * (k - j))
    rw [← Nat.add_assoc j m, ih] at hr
    rw [show j + m + (r + 1) * (k - j) = k + (m + r * (k - j)) by rw [Nat.add_mul, Nat.one_mul]; omega]
    refine Prod.ext hr.1 ?_
    have h2 : (itR ps ds (k + (m + r * (k - j))) xs).2 - ((itR ps ds (j + m) xs).2 + (r : Int) * ((itR ps ds k xs).2 - (itR ps ds j xs).2)) = (itR ps ds k xs).2 - (itR ps ds j xs).2 := hr.2
    show (itR ps ds (k + (m + r * (k - j))) xs).2 = (itR ps ds (j + m) xs).2 + ((r + 1 : Nat) : Int) * ((itR ps ds k xs).2 - (itR ps ds j xs).2)
    rw [show ((r + 1 : Nat) : Int) = (r : Int) + 1 by omega, Int.add_mul, Int.one_mul]
    omega
/-- the way round, reckoned -/
theorem itR_at {ps : List Part} {ds : List Deed} {xs : List Int} {j k n : Nat} (hjk : j < k) (hn : j ≤ n) (e : (itR ps ds j xs).1 = (itR ps ds k xs).1) :
    itR ps ds n xs = ((itR ps ds (j + (n - j) % (k - j)) xs).1, (itR ps ds (j + (n - j) % (k - j)) xs).2 + (((n - j) / (k - j) : Nat) : Int) * ((itR ps ds k xs).2 - (itR ps ds j xs).2)) := by
  have h := itR_rounds (Nat.le_of_lt hjk) e ((n - j) % (k - j)) ((n - j) / (k - j))
  rw [show j + (n - j) % (k - j) + (n - j) / (k - j) * (k - j) = n by
    have := Nat.mod_add_div (n - j) (k - j)
    rw [Nat.mul_comm (k - j)] at this
    omega] at h
  exact h
/-! no more unlike stands than there are -/
theorem filt_len {N : Nat} : ∀ {l : List Nat}, l.Nodup → (∀ x ∈ l, x < N + 1) → l.length ≤ (l.filter fun x => decide (x < N)).length + 1
  | [], _, _ => Nat.zero_le _
  | a :: r, hn, h => by
    obtain ⟨h1, h2⟩ := List.nodup_cons.mp hn
    by_cases ha : a < N
    · rw [List.filter_cons, if_pos (decide_eq_true ha), List.length_cons, List.length_cons]
      have := filt_len h2 fun x hx => h x (List.mem_cons_of_mem _ hx)
      omega
    · have ea : a = N := by
        have := h a List.mem_cons_self
        omega
      have : (r.filter fun x => decide (x < N)) = r := List.filter_eq_self.mpr fun x hx => decide_eq_true (by
        have h3 := h x (List.mem_cons_of_mem _ hx)
        have h4 : x ≠ N := fun z => h1 (by rw [ea, ← z]; exact hx)
        omega)
      rw [List.filter_cons, if_neg (by rw [decide_eq_false ha]; exact Bool.false_ne_true), this, List.length_cons]
      omega
theorem holes : ∀ (N : Nat) (l : List Nat), l.Nodup → (∀ x ∈ l, x < N) → l.length ≤ N
  | 0, [], _, _ => Nat.le_refl _
  | 0, a :: _, _, h => absurd (h a List.mem_cons_self) (Nat.not_lt_zero a)
  | N + 1, l, hn, h => by
    have h1 := filt_len hn h
    have h2 := holes N (l.filter fun x => decide (x < N)) (hn.filter _) fun x hx => of_decide_eq_true (List.mem_filter.mp hx).2
    omega
def code : List Part → List Int → Nat
  | _ :: ps, x :: xs => x.toNat * (stands ps).toNat + code ps xs
  | _, _ => 0
theorem code_lt : ∀ {ps : List Part} {xs : List Int}, StandL ps xs → code ps xs < (stands ps).toNat
  | [], [], _ => by decide
  | p :: ps, x :: xs, ⟨ok, h0, h1, h⟩ => by
    have ih := code_lt (ps := ps) (xs := xs) h
    have po := ok.pos.1
    show x.toNat * (stands ps).toNat + code ps xs < (p.places * stands ps).toNat
    have sp : 1 ≤ stands ps := stands_pos ps h.okp
    have e : (p.places * stands ps).toNat = p.places.toNat * (stands ps).toNat := by
      rw [Int.toNat_mul (by omega) (by omega)]
    rw [e]
    have hx : x.toNat + 1 ≤ p.places.toNat := by omega
    have := Nat.mul_le_mul_right (stands ps).toNat hx
    rw [Nat.add_mul, Nat.one_mul] at this
    omega
theorem code_inj : ∀ {ps : List Part} {xs ys : List Int}, StandL ps xs → StandL ps ys → code ps xs = code ps ys → xs = ys
  | [], [], [], _, _, _ => rfl
  | p :: ps, x :: xs, y :: ys, ⟨_, a0, _, ha⟩, ⟨_, b0, _, hb⟩, e => by
    have la := code_lt ha
    have lb := code_lt hb
    have e2 : x.toNat * (stands ps).toNat + code ps xs = y.toNat * (stands ps).toNat + code ps ys := e
    generalize (stands ps).toNat = N at *
    have d1 : (x.toNat * N + code ps xs) / N = x.toNat := by
      rw [Nat.mul_comm, Nat.mul_add_div (by omega), Nat.div_eq_of_lt la, Nat.add_zero]
    have d2 : (y.toNat * N + code ps ys) / N = y.toNat := by
      rw [Nat.mul_comm, Nat.mul_add_div (by omega), Nat.div_eq_of_lt lb, Nat.add_zero]
    rw [e2, d2] at d1
    have ex : x = y := by omega
    subst ex
    rw [code_inj ha hb (by omega)]
theorem few_stands {ps : List Part} {ds : List Deed} {xs : List Int} (h : StandL ps xs) (hd : ∀ d ∈ ds, d.ok ps.length) {k : Nat} (dist : ∀ i j, i < j → j < k → (itR ps ds i xs).1 ≠ (itR ps ds j xs).1) : k ≤ (stands ps).toNat := by
  have := holes (stands ps).toNat ((List.range k).map fun i => code ps (itR ps ds i xs).1) ?_ ?_
  · rw [List.length_map, List.length_range] at this
    exact this
  · rw [List.nodup_iff_pairwise_ne, List.pairwise_map]
    refine List.Pairwise.imp_of_mem (fun {a b} ha hb hab => ?_) (List.pairwise_lt_range (n := k))
    rw [List.mem_range] at ha hb
    exact fun z => dist a b hab hb (code_inj (itR_stand h hd a) (itR_stand h hd b) z)
  · intro x hx
    obtain ⟨i, _, rfl⟩ := List.mem_map.mp hx
    exact code_lt (itR_stand h hd i)
/-! how great a sum may be -/
theorem gen_le {w : Int} (hw : Sign w) : ∀ (ps : List Part) (xs : List Int) (t : Int), 0 ≤ t → StandL ps xs → (gen (ptw w) ps xs t).2 ≤ t
  | [], [], t, _, _ => Int.le_refl _
  | p :: ps, x :: xs, t, ht, ⟨ok, h0, h1, h⟩ => by
    have e : ((t.toNat : Nat) : Int) = t := by omega
    have a := pt_le ok h0 h1 hw t.toNat
    have n := pt_nn ok h0 h1 hw t.toNat
    rw [e] at a n
    exact Int.le_trans (gen_le hw ps xs (pt p x w t).2 n h) a
theorem deedL_sum {ps : List Part} {xs : List Int} {d : Deed} (h : StandL ps xs) (hd : d.ok ps.length) : -(d.t : Int) ≤ (deedL ps xs d).2 ∧ (deedL ps xs d).2 ≤ d.t := by
  have g1 := (gen_stand hd.2 _ _ (d.t : Int) (by omega) (stand_drop d.i h)).2
  have g2 := gen_le hd.2 _ _ (d.t : Int) (by omega) (stand_drop d.i h)
  show -(d.t : Int) ≤ d.w * (gen (ptw d.w) (ps.drop d.i) (xs.drop d.i) d.t).2 ∧ d.w * (gen (ptw d.w) (ps.drop d.i) (xs.drop d.i) d.t).2 ≤ d.t
  generalize (gen (ptw d.w) (ps.drop d.i) (xs.drop d.i) d.t).2 = g at *
  rcases hd.2 with e | e
  · rw [e, Int.one_mul]
    exact ⟨by omega, g2⟩
  · rw [e]
    exact ⟨by omega, by omega⟩
theorem rowL_sum {ps : List Part} : ∀ {ds : List Deed} {s : List Int × Int}, StandL ps s.1 → (∀ d ∈ ds, d.ok ps.length ∧ d.t < 2 ^ 200) → s.2 - ds.length * 2 ^ 200 ≤ (rowL ps ds s).2 ∧ (rowL ps ds s).2 ≤ s.2 + ds.length * 2 ^ 200
  | [], s, _, _ => by
    show s.2 - ((0 : Nat) : Int) * 2 ^ 200 ≤ s.2 ∧ s.2 ≤ s.2 + ((0 : Nat) : Int) * 2 ^ 200
    rw [show ((0 : Nat) : Int) = 0 from rfl, Int.zero_mul]
    omega
  | d :: ds, s, h, hd => by
    have d0 := hd d List.mem_cons_self
    have a := deedL_sum h d0.1
    have ih := rowL_sum (ds := ds) (s := ((deedL ps s.1 d).1, s.2 + (deedL ps s.1 d).2)) (deedL_stand h d0.1) fun e he => hd e (List.mem_cons_of_mem _ he)
    have i1 : s.2 + (deedL ps s.1 d).2 - (ds.length : Int) * 2 ^ 200 ≤ (rowL ps (d :: ds) s).2 := ih.1
    have i2 : (rowL ps (d :: ds) s).2 ≤ s.2 + (deedL ps s.1 d).2 + (ds.length : Int) * 2 ^ 200 := ih.2
    have dt := d0.2
    rw [List.length_cons, show ((ds.length + 1 : Nat) : Int) = (ds.length : Int) + 1 by omega, Int.add_mul, Int.one_mul]
    omega
theorem itR_sum {ps : List Part} {ds : List Deed} {xs : List Int} (h : StandL ps xs) (hd : ∀ d ∈ ds, d.ok ps.length ∧ d.t < 2 ^ 200) (hl : ds.length ≤ 1000) : ∀ n : Nat, -(n : Int) * 2 ^ 210 ≤ (itR ps ds n xs).2 ∧ (itR ps ds n xs).2 ≤ (n : Int) * 2 ^ 210
  | 0 => by
    show -((0 : Nat) : Int) * 2 ^ 210 ≤ 0 ∧ (0 : Int) ≤ ((0 : Nat) : Int) * 2 ^ 210
    decide
  | n + 1 => by
    have ih := itR_sum h hd hl n
    have r := rowL_sum (s := ((itR ps ds n xs).1, 0)) (itR_stand h (fun d hm => (hd d hm).1) n) hd
    have r1 : (0 : Int) - ds.length * 2 ^ 200 ≤ (rowL ps ds ((itR ps ds n xs).1, 0)).2 := r.1
    have r2 : (rowL ps ds ((itR ps ds n xs).1, 0)).2 ≤ 0 + ds.length * 2 ^ 200 := r.2
    show -((n + 1 : Nat) : Int) * 2 ^ 210 ≤ (itR ps ds n xs).2 + (rowL ps ds ((itR ps ds n xs).1, 0)).2 ∧ (itR ps ds n xs).2 + (rowL ps ds ((itR ps ds n xs).1, 0)).2 ≤ ((n + 1 : Nat) : Int) * 2 ^ 210
    rw [show ((n + 1 : Nat) : Int) = (n : Int) + 1 by omega]
    omega
theorem inl_inj : ∀ {xs ys : List Int}, xs.map (Sum.inl : Int → Key) = ys.map Sum.inl → xs = ys
  | [], [], _ => rfl
  | [], _ :: _, h => nomatch h
  | _ :: _, [], h => nomatch h
  | x :: xs, y :: ys, h => by
    injection h with h1 h2
    injection h1 with h3
    rw [h3, inl_inj h2]
theorem key_map (xs : List Int) : (xs.map (Sum.inl : Int → Key)).map kV = xs.map V.int := by
  rw [List.map_map]
  rfl
theorem units65 {k : Nat} {A : Around} (r : Room k A) : A.units + 65 < cLine := by
  have := r.un
  omega
theorem eqv_ints : ∀ (xs ys : List Int), PyData.eqvAll (xs.map PyData.int) (ys.map PyData.int) = decide (xs = ys)
  | [], [] => rfl
  | [], _ :: _ => rfl
  | _ :: _, [] => rfl
  | x :: xs, y :: ys => by
    rw [List.map_cons, List.map_cons, PyData.eqvAll, eqv_ints xs ys, PyData.eqv]
    by_cases e : x = y
    · subst e
      by_cases e2 : xs = ys
      · subst e2
        simp
      · rw [decide_eq_false e2, decide_eq_false (fun z => e2 (List.cons.inj z).2), Bool.and_false]
    · rw [decide_eq_false (fun z => e (List.cons.inj z).1), show (x == y) = false from beq_eq_false_iff_ne.mpr e, Bool.false_and]
theorem eqv_tupD (xs ys : List Int) : PyData.eqv (tupD xs) (tupD ys) = decide (xs = ys) := by
  unfold tupD
  rw [PyData.eqv]
  exact eqv_ints xs ys
theorem itR_one {ps : List Part} {xs : List Int} {i : Nat} {w : Int} (h : StandL ps xs) (hi : i < ps.length) (hw : Sign w) : ∀ n, itR ps [⟨i, w, 1⟩] n xs = pushes ps i w n (xs, 0)
  | 0 => rfl
  | n + 1 => by
    have ih := itR_one h hi hw n
    have hs : StandL ps (pushes ps i w n (xs, 0)).1 := pushes_stand h hi hw 0 n
    have e : rowL ps [⟨i, w, 1⟩] ((pushes ps i w n (xs, 0)).1, 0) = pushes ps i w 1 ((pushes ps i w n (xs, 0)).1, 0) := rowL_one (s := ((pushes ps i w n (xs, 0)).1, 0)) (d := ⟨i, w, 1⟩) hs ⟨hi, hw⟩
    show ((rowL ps [⟨i, w, 1⟩] ((itR ps [⟨i, w, 1⟩] n xs).1, 0)).1, (itR ps [⟨i, w, 1⟩] n xs).2 + (rowL ps [⟨i, w, 1⟩] ((itR ps [⟨i, w, 1⟩] n xs).1, 0)).2) = _
    rw [ih, e]
    refine Prod.ext rfl ?_
    show (pushes ps i w n (xs, 0)).2 + (0 + (Ct.run ps (pushes ps i w n (xs, 0)).1 i w).2) = (pushes ps i w n (xs, 0)).2 + (Ct.run ps (pushes ps i w n (xs, 0)).1 i w).2
    omega
theorem itR_deed {ps : List Part} {xs : List Int} {i : Nat} {w : Int} (h : StandL ps xs) (hi : i < ps.length) (hw : Sign w) (n : Nat) : itR ps [⟨i, w, 1⟩] n xs = rowL ps [⟨i, w, n⟩] (xs, 0) := by
  rw [itR_one h hi hw n, rowL_one (s := (xs, 0)) (d := ⟨i, w, n⟩) h ⟨hi, hw⟩]
theorem itR_add {ps : List Part} {ds : List Deed} (a : Nat) (xs : List Int) : ∀ b, itR ps ds (a + b) xs = ((itR ps ds b (itR ps ds a xs).1).1, (itR ps ds a xs).2 + (itR ps ds b (itR ps ds a xs).1).2)
  | 0 => Prod.ext rfl (Int.add_zero _).symm
  | b + 1 => by
    have ih := itR_add (ps := ps) (ds := ds) a xs b
    show ((rowL ps ds ((itR ps ds (a + b) xs).1, 0)).1, (itR ps ds (a + b) xs).2 + (rowL ps ds ((itR ps ds (a + b) xs).1, 0)).2) = _
    rw [ih]
    refine Prod.ext rfl ?_
    show (itR ps ds a xs).2 + (itR ps ds b (itR ps ds a xs).1).2 + _ = (itR ps ds a xs).2 + ((itR ps ds b (itR ps ds a xs).1).2 + _)
    rw [Int.add_assoc]
section
variable {K : PySem.W.Frag} {H : Hp} {σ : L2.St} {Q : VK} {D : Ends}
theorem w_dnewT (h : ∀ p, H p = none → Q (.ref p) (upd H p (.dT []))) : tDNewT σ H Q := h
theorem w_dnotin {ty td : TE} (h : ty σ H fun y H1 => td σ H1 fun x H2 => ∃ a o, x = .ref a ∧ DGet H2 a y o ∧ Q (.bl (!o.isSome)) H2) : tDNotIn ty td σ H Q := h
theorem w_dget {td ty : TE} (h : td σ H fun x H1 => ty σ H1 fun y H2 => ∃ a v, x = .ref a ∧ DGet H2 a y (some v) ∧ Q v H2) : tDGet td ty σ H Q := h
theorem w_dput {td ty tv : TE} (h : tv σ H fun v H1 => td σ H1 fun x H2 => ty σ H2 fun y H3 => ∃ a H4, x = .ref a ∧ DPut H3 a y v H4 ∧ D.nx σ H4) : sDPut td ty tv D σ H := h
end
end Ct

/-! what stays but for one object -/
namespace Ct
open PySem PySem.Spec PyProof.Rows L2
/-- all that was tracked stays, but for what lies at k -/
def But (k : Addr) (H H' : Hp) : Prop := ∀ a o, a ≠ k → H a = some o → H' a = some o
theorem but_same {k : Addr} {H H' : Hp} (s : Same H H') : But k H H' := fun a o _ h => s a o h
theorem But.refl {k : Addr} {H : Hp} : But k H H := fun _ _ _ h => h
theorem But.trans {k : Addr} {H H1 H2 : Hp} (a : But k H H1) (b : But k H1 H2) : But k H H2 := fun c o n h => b c o n (a c o n h)
theorem but_upd {k : Addr} {H : Hp} {o : HO} : But k H (upd H k o) := fun c u n h => by rw [upd_ne n]; exact h
theorem But.same {k : Addr} {H H1 H2 : Hp} (hk : H k = none) (s : Same H H1) (b : But k H1 H2) : Same H H2 := fun c o h => b c o (fun e => by rw [e, hk] at h; cases h) (s c o h)
def Ext (H : Hp) (k : Addr) : Prop := ∃ f, H k = some (.ext f)
theorem but_tup {K : PySem.W.Frag} {k a : Addr} {H H' : Hp} {xs : List V} (x : Ext H k) (e : But k H H') (h : SqT K H a xs) : SqT K H' a xs := by
  obtain ⟨f, x⟩ := x
  rcases h with (h | ⟨o, h⟩) | h
  · exact .inl (.inl (e _ _ (fun z => by rw [z, x] at h; cases h) h))
  · exact .inl (.inr ⟨o, e _ _ (fun z => by rw [z, x] at h; cases h) h⟩)
  · exact .inr h
theorem but_seq {K : PySem.W.Frag} {k a : Addr} {H H' : Hp} {xs : List V} (x : Ext H k) (e : But k H H') (h : SqL K H a xs) : SqL K H' a xs := by
  obtain ⟨f, x⟩ := x
  rcases h with (h | ⟨o, h⟩) | h
  · exact .inl (.inl (e _ _ (fun z => by rw [z, x] at h; cases h) h))
  · exact .inl (.inr ⟨o, e _ _ (fun z => by rw [z, x] at h; cases h) h⟩)
  · exact .inr h
mutual
theorem dp_but {K : PySem.W.Frag} {H H' : Hp} {k : Addr} (x : Ext H k) (e : But k H H') : ∀ {v : V} {d : PyData}, Dp K H v d → Dp K H' v d
  | _, _, .non => .non
  | _, _, .bl b => .bl b
  | _, _, .int i => .int i
  | _, _, .str x => .str x
  | _, _, .lst h t => .lst (but_seq x e h) (dpAll_but x e t)
  | _, _, .tup h t => .tup (but_tup x e h) (dpAll_but x e t)
theorem dpAll_but {K : PySem.W.Frag} {H H' : Hp} {k : Addr} (x : Ext H k) (e : But k H H') : ∀ {vs : List V} {ds : List PyData}, DpAll K H vs ds → DpAll K H' vs ds
  | _, _, .nil => .nil
  | _, _, .cons h t => .cons (dp_but x e h) (dpAll_but x e t)
end
theorem TrainAt.but {K : PySem.W.Frag} {H H' : Hp} {k a : Addr} {ps : List Part} (x : Ext H k) (e : But k H H') : TrainAt K H a ps → TrainAt K H' a ps
  | ⟨vs, h1, h2⟩ => ⟨vs, but_seq x e h1, dpAll_but x e h2⟩
end Ct

/-! a list of draws: a number, how often it was drawn from, a truth; it is written -/
namespace Ct
open PySem PySem.Spec PyProof.Rows L2
def DrO (a : Addr) (c : Nat) : HO := .ext fun h => ∃ (n : Int) (b : Bool) (its : List Value) (m : Nat), Vals [.int n, .int (c : Int), .bl b] its ∧ h.get? a = some { cls := .type "list", data := .seq its.toArray m }
theorem drO_ok {P : Program} {w : World} {H : Hp} {h : Heap} {a : Addr} {c : Nat} {n : Int} {b : Bool} {its : List Value} {m : Nat} (r : Vals [.int n, .int (c : Int), .bl b] its) (e : h.get? a = some { cls := .type "list", data := .seq its.toArray m }) : ObjOk P w H h a (DrO a c) :=
  ⟨⟨n, b, its, m, r, e⟩, ⟨_, e⟩, fun _ _ ⟨n, b, its, m, r, e⟩ keep => ⟨n, b, its, m, r, keep _ e⟩⟩
section
variable {X : Cx}
theorem dr_get {pins : List (Addr × Obj)} {σ : L2.St} {H : Hp} {s : Shared} {p : Addr} {c : Nat} (I : Inv X pins σ H s) (h : H p = some (DrO p c)) : ∃ (n : Int) (b : Bool) (its : List Value) (m : Nat), Vals [.int n, .int (c : Int), .bl b] its ∧ s.heap.get? p = some { cls := .type "list", data := .seq its.toArray m } :=
  (show ObjOk X.prog X.w H s.heap p (DrO p c) from I.hok p _ h).1
def rIxDr : R2 := fun x y H Q => ∃ (p : Addr) (i : Int) (c : Nat), x = .ref p ∧ y = .int i ∧ H p = some (DrO p c) ∧ (i = 0 ∧ (∀ n : Int, Q (.int n) H) ∨ i = 1 ∧ Q (.int (c : Int)) H ∨ i = 2 ∧ ∀ b, Q (.bl b) H)
theorem ix_dr : IxR X rIxDr := by
  intro value slice pins s σ H x y v u Q I rx ry h hs
  obtain ⟨p, i, c, rfl, rfl, hp, q⟩ := h
  cases rx
  obtain ⟨t, rfl⟩ := ry
  obtain ⟨n, b, its, m, r, e⟩ := dr_get I hp
  have pl : PlainL s.heap p its.toArray := ⟨_, m, e, rfl, rfl, rfl⟩
  have hl := r.length
  have hn := line63
  rcases q with ⟨rfl, q⟩ | ⟨rfl, q⟩ | ⟨rfl, q⟩
  · obtain ⟨w, ew, rw'⟩ := r.get (i := 0) (x := .int n) rfl
    exact item_listR pl.isList (by decide) (by omega) (by simpa using ew) ⟨.int n, H, I, rw', q n⟩ hs
  · obtain ⟨w, ew, rw'⟩ := r.get (i := 1) (x := .int (c : Int)) rfl
    exact item_listR pl.isList (by decide) (by omega) (by simpa using ew) ⟨.int (c : Int), H, I, rw', q⟩ hs
  · obtain ⟨w, ew, rw'⟩ := r.get (i := 2) (x := .bl b) rfl
    exact item_listR pl.isList (by decide) (by omega) (by simpa using ew) ⟨.bl b, H, I, rw', q b⟩ hs
def rSetDr : V → V → V → Hp → (Hp → Prop) → Prop := fun o i v H Q => ∃ (p : Addr) (k : Int) (c : Nat), o = .ref p ∧ i = .int k ∧ H p = some (DrO p c) ∧ (k = 0 ∧ (∃ n : Int, v = .int n) ∧ Q (upd H p (DrO p c)) ∨ k = 1 ∧ ∃ c' : Nat, v = .int (c' : Int) ∧ Q (upd H p (DrO p c')))
theorem dr_write {pins : List (Addr × Obj)} {σ : L2.St} {H : Hp} {s : Shared} {p : Addr} {c c' : Nat} {its its' : List Value} {m m' : Nat} {f : Obj → Obj} {n : Int} {b : Bool} (I : Inv X pins σ H s) (h : H p = some (DrO p c))
    (ho : s.heap.get? p = some { cls := .type "list", data := .seq its.toArray m }) (hf : f { cls := .type "list", data := .seq its.toArray m } = { cls := .type "list", data := .seq its'.toArray m' }) (r : Vals [.int n, .int (c' : Int), .bl b] its') (t : Nat) :
    Inv X pins σ (upd H p (DrO p c')) { s with heap := s.heap.update p f, toks := t } := by
  have e : (s.heap.update p f).get? p = some { cls := .type "list", data := .seq its'.toArray m' } := by
    rw [Heap.get?_update_self f ho (by rw [hf] <;> rfl), hf]
  exact I.write (x := p) (e := p) (by rw [h]; trivial) (.inl rfl) (fun b u hb q => (Heap.get?_update_other _ _ (Ne.symm hb)).trans q) ⟨_, e⟩ (drO_ok r e)
theorem set_dr : PSet X rSetDr := by
  intro pins s σ H o i v ov iv u Q I ro ri rv h
  obtain ⟨p, k, c, rfl, rfl, hp, q⟩ := h
  cases ro
  obtain ⟨t, rfl⟩ := ri
  obtain ⟨n, b, its, m, r, e⟩ := dr_get I hp
  have hl := r.length
  have hn := line63
  rcases q with ⟨rfl, ⟨n', rfl⟩, q⟩ | ⟨rfl, c', rfl, q⟩
  · have I' := dr_write I hp e (mapSeq_set its m 0 u) (r.set rv 0) s.toks
    exact PySem.W.ki_setAt e (by decide) (by omega) (by rw [List.size_toArray, ← hl]; show (0 : Int) < ((3 : Nat) : Int); decide) ⟨_, I', q⟩
  · have I' := dr_write I hp e (mapSeq_set its m 1 u) (r.set rv 1) s.toks
    exact PySem.W.ki_setAt e (by decide) (by omega) (by rw [List.size_toArray, ← hl]; show (1 : Int) < ((3 : Nat) : Int); decide) ⟨_, I', q⟩
def tLstDr (t : TA) : TE := fun σ H Q => t σ H fun xs H1 => ∃ (n : Int) (c : Nat) (b : Bool), xs = [.int n, .int (c : Int), .bl b] ∧ ∀ p, H1 p = none → Q (.ref p) (upd H1 p (DrO p c))
theorem pe_lstDr {es : List Expr} {t : TA} {pos : Pos} (h : PA X es t) : PE X (.List es pos) (tLstDr t) := by
  refine ⟨fun pins s σ H Q I hq => ?_⟩
  refine wpAny_List_spliced (thn (h.run pos pins s σ H _ I hq) fun us s1 ⟨xs, H1, I1, r, n, c, b, ex, q⟩ => ?_)
  subst ex
  refine ⟨by rw [← r.length]; show 3 ≤ sizeLine; decide, ?_⟩
  have hf : H1 s1.heap.objs.size = none := I1.hok.fresh (Nat.le_refl _)
  exact ⟨.ref s1.heap.objs.size, upd H1 s1.heap.objs.size (DrO _ c), I1.laid (t' := s1.toks) (fun b u e => Heap.get?_push_of_some _ e) (Nat.le_refl _) (drO_ok r (Heap.get?_push_size _ rfl)), rfl, q _ hf⟩
end
section
variable {H : Hp} {σ : L2.St} {Q : VK}
theorem w_lstDr {t : TA} (h : t σ H fun xs H1 => ∃ (n : Int) (c : Nat) (b : Bool), xs = [.int n, .int (c : Int), .bl b] ∧ ∀ p, H1 p = none → Q (.ref p) (upd H1 p (DrO p c))) : tLstDr t σ H Q := h
theorem w_dr0 {p : Addr} {c : Nat} (h : H p = some (DrO p c)) (q : ∀ n : Int, Q (.int n) H) : rIxDr (.ref p) (.int 0) H Q := ⟨p, 0, c, rfl, rfl, h, .inl ⟨rfl, q⟩⟩
theorem w_dr1 {p : Addr} {c : Nat} (h : H p = some (DrO p c)) (q : Q (.int (c : Int)) H) : rIxDr (.ref p) (.int 1) H Q := ⟨p, 1, c, rfl, rfl, h, .inr (.inl ⟨rfl, q⟩)⟩
theorem w_dr2 {p : Addr} {c : Nat} (h : H p = some (DrO p c)) (q : ∀ b, Q (.bl b) H) : rIxDr (.ref p) (.int 2) H Q := ⟨p, 2, c, rfl, rfl, h, .inr (.inr ⟨rfl, q⟩)⟩
end
/-- the draws at D were drawn from, c times by now; all else that was tracked stays -/
def Dr (D : Addr) (c : Nat) (H H' : Hp) : Prop := But D H H' ∧ H' D = some (DrO D c)
theorem Dr.refl {D : Addr} {c : Nat} {H : Hp} (h : H D = some (DrO D c)) : Dr D c H H := ⟨But.refl, h⟩
theorem Dr.next {D : Addr} {c : Nat} {H H' : Hp} (h : Dr D c H H') (c' : Nat) : Dr D c' H (upd H' D (DrO D c')) := ⟨h.1.trans but_upd, upd_same⟩
theorem Dr.same {D : Addr} {c : Nat} {H H' H2 : Hp} (h : Dr D c H H') (s : Same H' H2) : Dr D c H H2 := ⟨h.1.trans (but_same s), s _ _ h.2⟩
theorem Dr.trans {D : Addr} {c c' : Nat} {H H' H2 : Hp} (h : Dr D c H H') (g : Dr D c' H' H2) : Dr D c' H H2 := ⟨h.1.trans g.1, g.2⟩
theorem Dr.ext {D : Addr} {c : Nat} {H H' : Hp} (h : Dr D c H H') : Ext H' D := ⟨_, h.2⟩
theorem drO_ext {D : Addr} {c : Nat} {H : Hp} (h : H D = some (DrO D c)) : Ext H D := ⟨_, h⟩
theorem Dr.free {D : Addr} {c : Nat} {H H' : Hp} (h : Dr D c H H') {a : Addr} (n : H' a = none) : H a = none := by
  cases e : H a with
  | none => rfl
  | some o =>
    by_cases z : a = D
    · rw [z, h.2] at n
      cases n
    · rw [h.1 a o z e] at n
      cases n
/-- a list made in between is not the draws -/
theorem Dr.at {D l : Addr} {c c' : Nat} {H H' : Hp} {o : HO} (h : Dr D c H H') (hD : H D = some (DrO D c')) (hl : H l = some o) (ne : ∀ f, o ≠ .ext f := by intro f z; cases z) : H' l = some o :=
  h.1 l o (fun z => by rw [z, hD] at hl; exact ne _ (Option.some.inj hl).symm) hl
/-- a list made since is written -/
theorem Dr.put {D l : Addr} {c : Nat} {H H' : Hp} {o o' : HO} (h : Dr D c H H') (n : H l = none) (hl : H' l = some o) (ne : ∀ f, o ≠ .ext f := by intro f z; cases z) : Dr D c H (upd H' l o') := by
  have lD : l ≠ D := fun z => by rw [z, h.2] at hl; exact ne _ (Option.some.inj hl).symm
  refine ⟨fun a u na ha => ?_, by rw [upd_ne lD.symm]; exact h.2⟩
  rw [upd_ne (fun z => by rw [z, n] at ha; cases ha)]
  exact h.1 a u na ha
theorem rep_flat (w : V) : ∀ k : Nat, (List.replicate k [w]).flatten = List.replicate k w
  | 0 => rfl
  | k + 1 => by
    rw [List.replicate_succ, List.flatten_cons, rep_flat w k, List.replicate_succ]
    rfl
theorem cut_toB (xs : List V) (k : Nat) : cutV xs none (some (k : Int)) = xs.take k := by
  unfold cutV
  rw [HT.sIx_none, HT.sIx_nat, List.drop_zero, Nat.sub_zero]
  by_cases h : k ≤ xs.length
  · rw [Nat.min_eq_left h]
  · rw [Nat.min_eq_right (by omega), List.take_length, List.take_of_length_le (by omega)]
/-- a show: a way, and what was shown -/
def sh2D (s : Int × Int) : PyData := .tuple [.int s.1, .int s.2]
def Sh2Ok (s : Int × Int) : Prop := Sign s.1 ∧ (s.2 = 0 ∨ Sign s.2)
theorem sh2_inv {K : PySem.W.Frag} {H : Hp} {v : V} {s : Int × Int} (h : Dp K H v (sh2D s)) : ∃ a, v = .ref a ∧ SqT K H a [.int s.1, .int s.2] := by
  obtain ⟨a, vs, rfl, h1, h2⟩ := tup_inv h
  cases dpAll_ints_inv [s.1, s.2] h2
  exact ⟨a, rfl, h1⟩
theorem sh2_dp {K : PySem.W.Frag} {H : Hp} {a : Addr} {s : Int × Int} (h : SqT K H a [.int s.1, .int s.2]) : Dp K H (.ref a) (sh2D s) := .tup h (.cons (.int _) (.cons (.int _) .nil))
theorem sh2_upd {K : PySem.W.Frag} {H : Hp} {l : Addr} {ws : List V} {o : HO} (hl : H l = some (.lst ws)) {v : V} {s : Int × Int} (h : Dp K H v (sh2D s)) : Dp K (upd H l o) v (sh2D s) := by
  obtain ⟨g, rfl, hg⟩ := sh2_inv h
  exact sh2_dp (sqT_upd hg hl)
theorem sh2s_upd {K : PySem.W.Frag} {H : Hp} {l : Addr} {ws : List V} {o : HO} (hl : H l = some (.lst ws)) : ∀ {vs : List V} {ss : List (Int × Int)}, DpAll K H vs (ss.map sh2D) → DpAll K (upd H l o) vs (ss.map sh2D)
  | _, [], .nil => .nil
  | _, s :: ss, .cons h t => .cons (sh2_upd hl h) (sh2s_upd hl t)
theorem lay_sh2s (ss : List (Int × Int)) : (PyData.list (ss.map sh2D)).canLay0 = true ∧ (PyData.list (ss.map sh2D)).depth ≤ 2 := lay_lst fun d hd => by
  obtain ⟨w, _, rfl⟩ := List.mem_map.mp hd
  exact lay_tup (n := 0) (lay_ints [w.1, w.2] 0)
theorem Dr.step {D : Addr} {c : Nat} {H : Hp} (h : H D = some (DrO D c)) (c' : Nat) : Dr D c' H (upd H D (DrO D c')) := (Dr.refl h).next c'
theorem Dr.all {K : PySem.W.Frag} {D : Addr} {c c' : Nat} {H H' : Hp} (d : Dr D c' H H') (h : H D = some (DrO D c)) {vs : List V} {ds : List PyData} (x : DpAll K H vs ds) : DpAll K H' vs ds := dpAll_but (drO_ext h) d.1 x
/-- a pass: what came, at which tooth, what was shown -/
abbrev Pass := Int × Int × Int
def passD (s : Pass) : PyData := .tuple [.int s.1, .int s.2.1, .int s.2.2]
theorem pass_inv {K : PySem.W.Frag} {H : Hp} {v : V} {s : Pass} (h : Dp K H v (passD s)) : ∃ a, v = .ref a ∧ SqT K H a [.int s.1, .int s.2.1, .int s.2.2] := by
  obtain ⟨a, vs, rfl, h1, h2⟩ := tup_inv h
  cases dpAll_ints_inv [s.1, s.2.1, s.2.2] h2
  exact ⟨a, rfl, h1⟩
def unlk (p q : Pass) : Bool := !decide (p.1 = 0) && (!decide (q.1 = 0) && (decide (p.2.2 = 0) != decide (q.2.2 = 0)))
/-- two passes at the same tooth that are unlike -/
def Hit (ps : List Pass) (t : Int) (j k : Nat) : Prop := ∃ p q : Pass, ps[j]? = some p ∧ ps[k]? = some q ∧ p.2.1 % t = q.2.1 % t ∧ unlk p q = true
def NoHit (ps : List Pass) (t : Int) (n : Nat) : Prop := ∀ j k, j < k → k < n → ¬ Hit ps t j k
theorem unlk_came {p q : Pass} (h : unlk p q = true) : p.1 ≠ 0 ∧ q.1 ≠ 0 ∧ (decide (p.2.2 = 0) ≠ decide (q.2.2 = 0)) := by
  unfold unlk at h
  simp only [Bool.and_eq_true, Bool.not_eq_true', decide_eq_false_iff_not, bne_iff_ne, ne_eq] at h
  exact ⟨h.1, h.2.1, h.2.2⟩
theorem unlk_of {p q : Pass} (h1 : p.1 ≠ 0) (h2 : q.1 ≠ 0) (h : unlk p q = false) : decide (p.2.2 = 0) = decide (q.2.2 = 0) := by
  unfold unlk at h
  rw [decide_eq_false h1, decide_eq_false h2] at h
  simpa using h
theorem unlk_self (p : Pass) : unlk p p = false := by
  unfold unlk
  simp
/-- what is kept of the first n passes: the first one at each tooth -/
structure Kept (ps : List Pass) (t : Int) (n : Nat) (kvs : List (Key × V)) : Prop where
  is : ∀ r v, valV kvs (Sum.inl r) = some v → ∃ (j : Nat) (p : Pass), v = .int (j : Int) ∧ j < n ∧ ps[j]? = some p ∧ p.1 ≠ 0 ∧ p.2.1 % t = r ∧ ∀ i q, i < j → ps[i]? = some q → q.1 ≠ 0 → q.2.1 % t ≠ r
  no : ∀ r, valV kvs (Sum.inl r) = none → ∀ i q, i < n → ps[i]? = some q → q.1 ≠ 0 → q.2.1 % t ≠ r
theorem Kept.skip {ps : List Pass} {t : Int} {n : Nat} {kvs : List (Key × V)} (h : Kept ps t n kvs) {q : Pass} (hq : ps[n]? = some q) (z : q.1 = 0) : Kept ps t (n + 1) kvs := by
  refine ⟨fun r v e => ?_, fun r e i p hi hp hn => ?_⟩
  · obtain ⟨j, p, h1, h2, h3⟩ := h.is r v e
    exact ⟨j, p, h1, by omega, h3⟩
  · by_cases c : i < n
    · exact h.no r e i p c hp hn
    · have : i = n := by omega
      subst this
      cases Option.some.inj (hq.symm.trans hp)
      exact absurd z hn
theorem Kept.there {ps : List Pass} {t : Int} {n : Nat} {kvs : List (Key × V)} (h : Kept ps t n kvs) {q : Pass} (hq : ps[n]? = some q) {v : V} (e : valV kvs (Sum.inl (q.2.1 % t)) = some v) : Kept ps t (n + 1) kvs := by
  refine ⟨fun r v e => ?_, fun r e' i p hi hp hn => ?_⟩
  · obtain ⟨j, p, h1, h2, h3⟩ := h.is r v e
    exact ⟨j, p, h1, by omega, h3⟩
  · by_cases c : i < n
    · exact h.no r e' i p c hp hn
    · have : i = n := by omega
      subst this
      cases Option.some.inj (hq.symm.trans hp)
      intro z
      rw [z, e'] at e
      cases e
theorem Kept.new {ps : List Pass} {t : Int} {n : Nat} {kvs : List (Key × V)} (h : Kept ps t n kvs) {q : Pass} (hq : ps[n]? = some q) (hn : q.1 ≠ 0) (e : valV kvs (Sum.inl (q.2.1 % t)) = none) : Kept ps t (n + 1) (putK kvs (Sum.inl (q.2.1 % t)) (.int (n : Int))) := by
  refine ⟨fun r v e2 => ?_, fun r e2 i p hi hp hne => ?_⟩
  · rw [valV_put] at e2
    by_cases c : (Sum.inl r : Key) = Sum.inl (q.2.1 % t)
    · have c' : r = q.2.1 % t := Sum.inl.inj c
      subst c'
      rw [if_pos rfl] at e2
      cases Option.some.inj e2
      exact ⟨n, q, rfl, Nat.lt_succ_self n, hq, hn, rfl, fun i p hi hp hne => h.no _ e i p hi hp hne⟩
    · rw [if_neg c] at e2
      obtain ⟨j, p, h1, h2, h3⟩ := h.is r v e2
      exact ⟨j, p, h1, by omega, h3⟩
  · rw [valV_put] at e2
    by_cases c : (Sum.inl r : Key) = Sum.inl (q.2.1 % t)
    · rw [if_pos c] at e2
      cases e2
    · rw [if_neg c] at e2
      by_cases cc : i < n
      · exact h.no r e2 i p cc hp hne
      · have : i = n := by omega
        subst this
        cases Option.some.inj (hq.symm.trans hp)
        exact fun z => c (by rw [z])
theorem NoHit.more {ps : List Pass} {t : Int} {n : Nat} (h : NoHit ps t n) (g : ∀ j, j < n → ¬ Hit ps t j n) : NoHit ps t (n + 1) := fun j k jk kn => by
  by_cases c : k < n
  · exact h j k jk c
  · have : k = n := by omega
    subst this
    exact g j jk
theorem fb_enumL {K : PySem.W.Frag} {H : Hp} {σ : L2.St} {D : Ends} {a : Addr} (xs : List V) {g : TG} {tb : TS} (Pv : Nat → L2.St → Hp → Prop) (h0 : Pv 0 σ H) (hl : ∀ i σ H, i ≤ xs.length → Pv i σ H → SqL K H a xs)
    (hs : ∀ i v T σ H, xs[i]? = some v → Pv i σ H → H T = none → g (.ref T) σ (upd H T (.tup [.int (i : Nat), v])) fun σ2 H2 => tb { D with nx := Pv (i + 1), ct := Pv (i + 1), bk := D.nx } σ2 H2) (hd : ∀ σ H, Pv xs.length σ H → D.nx σ H) : FB (Ite K a) g tb D σ H :=
  for_it (walk_enum (xs := xs)) Pv h0 hl (fun i x σ H H' _ p y => by
    obtain ⟨T, u, v, rfl, hT, rfl, e1, e2⟩ := y
    cases Option.some.inj e1
    exact hs i v T σ H e2 p hT) hd
theorem w_ninT {K : PySem.W.Frag} {H : Hp} {Q : VK} {p : Addr} {x : Int} {ns : List Int} (h : SqT K H p (ns.map V.int)) (q : Q (.bl (!decide (x ∈ ns))) H) : rIn K true (.int x) (.ref p) H Q := by
  refine ⟨p, ns.map V.int, rfl, .inr h, rfl, ?_, ?_⟩
  · rw [List.all_map]
    exact List.all_eq_true.mpr fun _ _ => rfl
  · rw [if_pos rfl]
    rw [show inV (.int x) (ns.map V.int) = decide (x ∈ ns) from by
      unfold inV
      rw [List.any_map]
      by_cases e : x ∈ ns
      · rw [decide_eq_true e, List.any_eq_true]
        exact ⟨x, e, by show (x == x) = true; exact beq_self_eq_true x⟩
      · rw [decide_eq_false e, List.any_eq_false]
        intro y hy
        show ¬ (y == x) = true
        intro z
        exact e (eq_of_beq z ▸ hy)]
    exact q
section
variable {K : PySem.W.Frag} {H : Hp} {σ : L2.St} {D : Ends} {Q : VK} {R : It → Hp → Prop}
def IZL (K : PySem.W.Frag) (vs : List V) (H : Hp) (R : It → Hp → Prop) : Prop := iZip K (fun _ H Q => Q vs H) [] H R
theorem w_izip {ta : TA} (h : ta σ H fun vs H1 => IZL K vs H1 R) : iZip K ta σ H R := h
theorem w_IZL {a b : Addr} {xs ys : List V} (h1 : SqL K H a xs) (h2 : SqL K H b ys) (q : R (Itz K a b) H) : IZL K [.ref a, .ref b] H R := ⟨a, b, xs, ys, rfl, h1, h2, q⟩
theorem fb_zipL {a b : Addr} (xs ys : List V) (hl : xs.length = ys.length) {g : TG} {tb : TS} (Pv : Nat → L2.St → Hp → Prop) (h0 : Pv 0 σ H) (hq : ∀ i σ H, i ≤ xs.length → Pv i σ H → SqL K H a xs ∧ SqL K H b ys)
    (hs : ∀ i x y T σ H, xs[i]? = some x → ys[i]? = some y → Pv i σ H → H T = none → g (.ref T) σ (upd H T (.tup [x, y])) fun σ2 H2 => tb { D with nx := Pv (i + 1), ct := Pv (i + 1), bk := D.nx } σ2 H2) (hd : ∀ σ H, Pv xs.length σ H → D.nx σ H) : FB (Itz K a b) g tb D σ H :=
  for_it (walk_zip (xs := xs) (ys := ys) (n := xs.length) (by omega)) Pv h0 hq (fun i x σ H H' _ p y => by
    obtain ⟨T, u, v, rfl, hT, rfl, e1, e2⟩ := y
    exact hs i u v T σ H e1 e2 p hT) hd
end
/-- the passes of the first n shows -/
def passN (cs : List Int) (ss : List (Int × Int)) : Nat → List Pass
  | 0 => []
  | n + 1 => passN cs ss n ++ (match cs[n]?, ss[n]? with | some c, some s => [(c, (if c = 1 then (cs.take n).sum + 1 else (cs.take n).sum), s.2)] | _, _ => [])
theorem pass_upd {K : PySem.W.Frag} {H : Hp} {l : Addr} {ws : List V} {o : HO} (hl : H l = some (.lst ws)) {v : V} {s : Pass} (h : Dp K H v (passD s)) : Dp K (upd H l o) v (passD s) := by
  obtain ⟨g, rfl, hg⟩ := pass_inv h
  exact .tup (sqT_upd hg hl) (.cons (.int _) (.cons (.int _) (.cons (.int _) .nil)))
theorem passes_upd {K : PySem.W.Frag} {H : Hp} {l : Addr} {ws : List V} {o : HO} (hl : H l = some (.lst ws)) : ∀ {vs : List V} {ss : List Pass}, DpAll K H vs (ss.map passD) → DpAll K (upd H l o) vs (ss.map passD)
  | _, [], .nil => .nil
  | _, s :: ss, .cons h t => .cons (pass_upd hl h) (passes_upd hl t)
end Ct

/-! set comprehensions, sorted(set) of any number of whole numbers -/
namespace Ct
open PySem PySem.Spec PyProof.Rows L2
/-- the sets that a comprehension may make: what is tracked of one, how it begins, what one member more makes of it -/
structure SetKd (X : Cx) (α : Type) where
  O : Addr → α → HO
  nil : α
  more : Hp → α → V → α → Prop
  laid : ∀ (H : Hp) (h : Heap), ObjOk X.prog X.w H (h.push { cls := .type "set", dict := none, data := .set #[] 0 (.fresh 0 0 (!X.w.params.followText "set-order")) }) h.objs.size (O h.objs.size nil)
  add : ∀ (Y : Cx), Y.prog = X.prog → Y.w = X.w → Y.A = X.A → Y.calm = X.calm → Y.K = X.K → ∀ {pins : List (Addr × Obj)} {σ : L2.St} {H : Hp} {s : Shared} {E : Value → Shared → Prop} {D : Addr} {x x' : α} {y : V} {u : Value} {Q : Value → Shared → Prop}, Inv Y pins σ H s → H D = some (O D x) → RelV y u → more H x y x' →
    (∀ z, Inv Y pins σ (upd H D (O D x')) z → Q .none z) → wpAny (model Y.prog Y.w) Y.A (call (.builtin "set.add") [.ref D, u]) Q E s
section
variable {X : Cx} {α : Type}
/-- {elt for target in iter if ..}; D the new set -/
def tScG (O : Addr → α → HO) (nil : α) (more : Hp → α → V → α → Prop) (wi : TI) (g : TG) (tt : TT) (te : TE) (vs : List Nat) : TE := fun σ H Q => wi σ H fun J H1 => ∀ D, H1 D = none → ∃ W : Nat → Nat → Hp → Prop, (∃ m, W 0 m (upd H1 D (O D nil))) ∧ ∀ i m Hi, W i m Hi →
  (J.stop i Hi ∧ Q (.ref D) Hi) ∨ (J.go i Hi ∧ ∃ Nx : Hp → Prop, (∀ H', Nx H' → ∃ m', m' < m ∧ W (i + 1) m' H') ∧ ∀ x H', J.yld i Hi x H' → g x (wipe σ vs) H' fun σ2 H2 => wipe σ2 vs = wipe σ vs ∧ tt σ2 H2 fun yes H3 =>
    if yes = true then te σ2 H3 fun y H4 => ∃ x x' : α, H4 D = some (O D x) ∧ more H4 x y x' ∧ Nx (upd H4 D (O D x')) else Nx H3)
theorem scG_core (kd : SetKd X α) {pins : List (Addr × Obj)} {s : Shared} {σ : L2.St} {H : Hp} {Q : VK} {use : Option (Value → Sem Unit)} {Qf : Value → Shared → Prop} {ex tg iter : Expr} {ifs : List Expr} {scope : Scope} {own : List (Str × Nat)} {pos pos' : Pos} {wi : TI} {g : TG} {tt : TT} {te : TE} (calm : X.calm = true) (nd : X.N.Nodup) (src : PI X tg iter wi) (blk : BlkOk X.N X.env.scope scope own)
    (pG : ∀ (z : Shared) (G : Hp) (C : Addr) (cl : List (Str × Addr)) (fp : List Addr), PG (X.blk z G scope (compEnvC scope cl C X.env) fp) tg g) (pT : ∀ (z : Shared) (G : Hp) (C : Addr) (cl : List (Str × Addr)) (fp : List Addr), PTs (X.blk z G scope (compEnvC scope cl C X.env) fp) ifs tt)
    (pE : ∀ (z : Shared) (G : Hp) (C : Addr) (cl : List (Str × Addr)) (fp : List Addr), PE (X.blk z G scope (compEnvC scope cl C X.env) fp) ex te) (plain : ∀ x, foldedSetIterable iter X.env x = pure x)
    (inv : Inv X pins σ H s) (wish : tScG kd.O kd.nil kd.more wi g tt te (own.map (·.2)) σ H Q)
    (post : ∀ D C z m G, Inv X pins σ G z → Q (.ref D) G → z.heap.Ns C m → FpOk X pins G C → compPost (model X.prog X.w) X.A X.xe use Qf (.ref D) C (.ok .next) z) :
    wpAny (model X.prog X.w) X.A (comprehension (.SetComp ex [⟨tg, iter, ifs, 0⟩] scope pos) scope X.env pos' (newSet (.type "set")) false (eval iter X.env) use) Qf X.xe s := by
  have cells : ∀ y ∈ scope.names, y.2 = .free → ∃ c, X.env.cells.lookup y.1 = some c := fun y hy e => (blk.free y hy e).elim (fun k => inv.ok.has _ (.inl k)) fun k => inv.ok.has _ (.inr k)
  refine wpAny_comprehension_free (use := use) rfl plain (closure_ok cells) blk.kind (fun y hy e => by rw [blk.uniq y hy, e]) ?_
  refine thn (src.run pins s σ H _ inv wish) fun _ sA hA => thn hA fun _ sB hB => ?_
  obtain ⟨it, fp, at_, walk, HB, rfl, invB, T, stB, fpB, told⟩ := hB
  refine PpSet.newSet_ok (newEnv_comp ?_)
  have free : HB sB.heap.objs.size = none := invB.hok.fresh (Nat.le_refl _)
  obtain ⟨W, ⟨m0, w0⟩, turn⟩ := told sB.heap.objs.size free
  have below : ∀ b ∈ fp, b < sB.heap.objs.size := fun b hb => let ⟨_, e, _⟩ := T.obj _ _ stB b hb; Heap.lt_size e
  generalize hD : sB.heap.objs.size = D at *
  generalize hC : ({ sB with heap := sB.heap.push { cls := .type "set", dict := none, data := .set #[] 0 (.fresh 0 0 (!X.w.params.followText "set-order")) } } : Shared) = sC
  have heapC : sC.heap = sB.heap.push { cls := .type "set", dict := none, data := .set #[] 0 (.fresh 0 0 (!X.w.params.followText "set-order")) } := by rw [← hC]
  have invC : Inv X pins σ (upd HB D (kd.O D kd.nil)) sC := by
    subst hC
    refine invB.laid (t' := sB.toks) (fun b o e => Heap.get?_push_of_some _ e) (Nat.le_of_eq hD) ?_
    subst hD
    exact kd.laid _ _
  have oldC : ∀ b o, sB.heap.get? b = some o → sC.heap.get? b = some o := fun b o e => by rw [heapC]; exact Heap.get?_push_of_some _ e
  have fpC : ∀ b ∈ fp, FpOk X pins (upd HB D (kd.O D kd.nil)) b ∧ b < sC.heap.objs.size := fun b hb => by
    have lt := below b hb
    have l2 : b < sC.heap.objs.size := by
      rw [heapC, Heap.size_push, hD]
      exact Nat.lt_succ_of_lt lt
    exact ⟨⟨by rw [upd_ne (Nat.ne_of_lt lt)]; exact (fpB b hb).1, (fpB b hb).2⟩, l2⟩
  have invD := block_start invC blk nd fpC
  generalize hcl : cellsFrom (sC.heap.objs.size + 1) scope.names (cloFrom X.env.cells scope.names []) = cl at *
  show codeAny _ _ (.compStart (.SetComp ex [⟨tg, iter, ifs, 0⟩] scope pos) 0 (.ref it) (.ref D) (compEnvC scope cl sC.heap.objs.size X.env)) (compPost (model X.prog X.w) X.A X.xe use Qf (.ref D) sC.heap.objs.size) { sC with heap := pushCells (sC.heap.push { cls := .type "dict", data := .dict #[] }) scope.names }
  have loc : (compEnvC scope cl sC.heap.objs.size X.env).locals = sC.heap.objs.size := rfl
  have qG := pG sC (upd HB D (kd.O D kd.nil)) sC.heap.objs.size cl fp
  have qT := pT sC (upd HB D (kd.O D kd.nil)) sC.heap.objs.size cl fp
  have qE := pE sC (upd HB D (kd.O D kd.nil)) sC.heap.objs.size cl fp
  have noneC : ∀ b ∈ fp, (upd HB D (kd.O D kd.nil)) b = none := fun b hb => (fpC b hb).1.1
  generalize hE : compEnvC scope cl sC.heap.objs.size X.env = ce at invD qG qT qE loc ⊢
  generalize hG : upd HB D (kd.O D kd.nil) = HC at invC invD qG qT qE w0 noneC fpC
  generalize hZ : ({ sC with heap := pushCells (sC.heap.push { cls := .type "dict", data := .dict #[] }) scope.names } : Shared) = sD at invD ⊢
  have stD : at_ 0 sD.heap := T.keep _ _ _ stB fun b _ o e => by rw [← hZ]; exact pushCells_keeps _ _ _ _ (Heap.get?_push_of_some _ (oldC b o e))
  have calmly : ∀ {τ : L2.St} {G : Hp} {z : Shared}, Inv (X.blk sC HC scope ce fp) [] τ G z → (∀ b ∈ fp, G b = none) → ∀ b ∈ fp, FpOk (X.blk sC HC scope ce fp) [] G b := fun {τ G z} i n b hb =>
    ⟨n b hb, (i.ok.exf b hb).1, i.ok.exfs b hb, .inl hb, fun x c e => (i.ok.exf b hb).2 x c e, fun p hp => absurd (show p ∈ ([] : List (Addr × Obj)) ++ [] from hp) (by simp)⟩
  refine (fun loop => PpSet.codeAny_compStart_set loop (T.self X.A 0 _ _ _ stD loop)) ?_
  refine PpSet.compLoopS_any (fun n z => ∃ i G, Inv (X.blk sC HC scope ce fp) [] (wipe σ (own.map (·.2))) G z ∧ at_ i z.heap ∧ (∀ b ∈ fp, G b = none) ∧ W i n G) ?_ m0 ⟨0, HC, invD, stD, noneC, w0⟩
  rintro n z5 ⟨i, G5, inv5, st5, n5, w5⟩
  rcases turn i n G5 w5 with ⟨stop, fin⟩ | ⟨go, Nx, less, step⟩
  · refine thnF (T.done (X.blk sC HC scope ce fp) rfl rfl rfl calm i [] z5 _ G5 (fun _ _ => False) inv5 (calmly inv5 n5) st5 stop) ?_
    rintro r z6 ⟨rfl, inv6⟩
    have back : Inv X pins σ G5 z6 := invC.call' (ch := fp) inv6.os inv6.base inv6.hok inv6.bare fun b hb => ⟨(fpC b hb).1.2.2.2.1, (fpC b hb).1.2.1, (fpC b hb).1.2.2.2.2.1, (fpC b hb).1.2.2.2.2.2⟩
    have nL : G5 sC.heap.objs.size = none := by
      rw [← loc]
      exact inv6.free
    obtain ⟨m, names, _⟩ := inv6.loc
    have names' : z6.heap.Ns sC.heap.objs.size m := by
      rw [← loc]
      exact names
    exact post D sC.heap.objs.size z6 m G5 back fin names' (invC.fpOk (Nat.le_refl _) nL)
  · refine thnF (T.item (X.blk sC HC scope ce fp) rfl rfl rfl calm i [] z5 _ G5 (fun _ _ => False) inv5 (calmly inv5 n5) st5 go) ?_
    rintro r z6 ⟨u, rfl, h6⟩
    refine thnF h6 ?_
    rintro _ z7 ⟨x, G7, inv7, r7, y7, st7, n7⟩
    refine thnF (qG.run _ z7 _ G7 x u _ (inv7.pinned (calmly inv7 n7) (T.obj _ _ st7)) r7 (step x G7 y7)) ?_
    rintro _ z8 ⟨σ8, G8, inv8, same8, q8⟩
    refine thnF (qT.run _ z8 σ8 G8 _ inv8 q8) ?_
    rintro yes z9 ⟨G9, inv9, q9⟩
    have next : ∀ {z : Shared} {G : Hp}, Inv (X.blk sC HC scope ce fp) ([] ++ pinsAt fp z7.heap) σ8 G z → Nx G → ∃ m, m < n ∧ ∃ i G, Inv (X.blk sC HC scope ce fp) [] (wipe σ (own.map (·.2))) G z ∧ at_ i z.heap ∧ (∀ b ∈ fp, G b = none) ∧ W i m G := fun {z G} i' nx => by
      obtain ⟨m', lt, w'⟩ := less G nx
      have pinned : ∀ b ∈ fp, ∀ o, z7.heap.get? b = some o → z.heap.get? b = some o ∧ G b = none := fun b hb o e =>
        let p := i'.pin (b, o) (List.mem_append_right _ (List.mem_append_right _ (mem_pinsAt hb e)))
        ⟨p.1, p.2.1⟩
      refine ⟨m', lt, i + 1, G, (i'.unpinned (pins := [])).weak (by rw [← same8, wipe_length]) (fun j v e => ?_), T.keep _ _ _ st7 fun b hb o e => (pinned b hb o e).1, fun b hb => ?_, w'⟩
      · rw [← same8] at e
        exact (wipe_some e).1
      · obtain ⟨o, e, _⟩ := T.obj _ _ st7 b hb
        exact (pinned b hb o e).2
    cases yes with
    | false =>
      simp only [Bool.false_eq_true, if_false] at q9 ⊢
      exact next inv9 q9
    | true =>
      simp only [if_true] at q9 ⊢
      refine thnF (qE.run _ z9 σ8 G9 _ inv9 q9) ?_
      rintro eu z10 ⟨ye, G10, inv10, r10, x0, x1, hD10, mo, nx⟩
      exact kd.add (X.blk sC HC scope ce fp) rfl rfl rfl rfl rfl inv10 hD10 r10 mo fun z12 inv12 => next inv12 nx
theorem pe_scG (kd : SetKd X α) {ex tg iter : Expr} {ifs : List Expr} {scope : Scope} {own : List (Str × Nat)} {pos : Pos} {wi : TI} {g : TG} {tt : TT} {te : TE} (calm : X.calm = true) (nd : X.N.Nodup) (src : PI X tg iter wi) (blk : BlkOk X.N X.env.scope scope own)
    (pG : ∀ (z : Shared) (G : Hp) (C : Addr) (cl : List (Str × Addr)) (fp : List Addr), PG (X.blk z G scope (compEnvC scope cl C X.env) fp) tg g) (pT : ∀ (z : Shared) (G : Hp) (C : Addr) (cl : List (Str × Addr)) (fp : List Addr), PTs (X.blk z G scope (compEnvC scope cl C X.env) fp) ifs tt)
    (pE : ∀ (z : Shared) (G : Hp) (C : Addr) (cl : List (Str × Addr)) (fp : List Addr), PE (X.blk z G scope (compEnvC scope cl C X.env) fp) ex te) (plain : ∀ x, foldedSetIterable iter X.env x = pure x := by intro _; rfl) :
    PE X (.SetComp ex [⟨tg, iter, ifs, 0⟩] scope pos) (tScG kd.O kd.nil kd.more wi g tt te (own.map (·.2))) := by
  constructor
  intro pins s σ H Q inv wish
  rw [PpSet.eval_SetComp]
  refine scG_core kd calm nd src blk pG pT pE plain inv wish ?_
  intro D C z m G back fin names ⟨f0, f1, f2, f3, f4, f5⟩
  exact ⟨m, names, fun h'' sb => ⟨.ref D, G, back.turned (t' := z.toks) (fun b o hb e => (sb.2 b hb).trans e) f0 f1 f3 f4 f5, rfl, fin⟩⟩
theorem pe_scW (kd : SetKd X α) {O : Addr → α → HO} {nil : α} {more : Hp → α → V → α → Prop} (eO : kd.O = O) (en : kd.nil = nil) (em : kd.more = more) {ex tg iter : Expr} {ifs : List Expr} {scope : Scope} {own : List (Str × Nat)} {pos : Pos} {wi : TI} {g : TG} {tt : TT} {te : TE} (calm : X.calm = true) (nd : X.N.Nodup) (src : PI X tg iter wi) (blk : BlkOk X.N X.env.scope scope own)
    (pG : ∀ (z : Shared) (G : Hp) (C : Addr) (cl : List (Str × Addr)) (fp : List Addr), PG (X.blk z G scope (compEnvC scope cl C X.env) fp) tg g) (pT : ∀ (z : Shared) (G : Hp) (C : Addr) (cl : List (Str × Addr)) (fp : List Addr), PTs (X.blk z G scope (compEnvC scope cl C X.env) fp) ifs tt)
    (pE : ∀ (z : Shared) (G : Hp) (C : Addr) (cl : List (Str × Addr)) (fp : List Addr), PE (X.blk z G scope (compEnvC scope cl C X.env) fp) ex te) (plain : ∀ x, foldedSetIterable iter X.env x = pure x := by intro _; rfl) :
    PE X (.SetComp ex [⟨tg, iter, ifs, 0⟩] scope pos) (tScG O nil more wi g tt te (own.map (·.2))) := by
  subst eO en em
  exact pe_scG kd calm nd src blk pG pT pE plain
/-- sets of whole numbers: the members told by S, n of them -/
def IntSet (w : World) (a : Addr) (x : (Int → Bool) × Nat) : HO := SetO w a x.1 x.2
def moreI (_ : Hp) (x : (Int → Bool) × Nat) (y : V) (x' : (Int → Bool) × Nat) : Prop := ∃ k : Int, y = .int k ∧ x.2 + 1 < scanBound ∧ x' = (fun j => x.1 j || decide (j = k), if x.1 k = true then x.2 else x.2 + 1)
theorem add_int {Y : Cx} {pins : List (Addr × Obj)} {σ : L2.St} {H : Hp} {s : Shared} {E : Value → Shared → Prop} {D : Addr} {x x' : (Int → Bool) × Nat} {y : V} {u : Value} {Q : Value → Shared → Prop} (J : Inv Y pins σ H s) (hD : H D = some (IntSet Y.w D x)) (r : RelV y u) (mo : moreI H x y x')
    (q : ∀ z, Inv Y pins σ (upd H D (IntSet Y.w D x')) z → Q .none z) : wpAny (model Y.prog Y.w) Y.A (call (.builtin "set.add") [.ref D, u]) Q E s := by
  obtain ⟨k, rfl, room, rfl⟩ := mo
  obtain ⟨tk, rfl⟩ := r
  refine setR_add (setO_get J hD) room fun h' sb made => ?_
  obtain ⟨o, _, _, _, ho, _⟩ := id made
  refine q _ (J.write (e := D) (t' := s.toks + 1) ?_ (.inl rfl) (fun b u hb hu => (sb.2 b hb).trans hu) ⟨o, ho⟩ (setO_new made))
  rw [hD]
  exact True.intro
def kdI (X : Cx) : SetKd X ((Int → Bool) × Nat) where
  O := IntSet X.w
  nil := (fun _ => false, 0)
  more := moreI
  laid := fun _ _ => setO_new (setR_fresh X.w)
  add := fun Y e1 e2 _ _ _ {_ _ _ _ _ _ _ _ _ _ _} J hD r mo q => by
    rw [← e2] at hD q
    exact add_int J hD r mo q
theorem pe_scI {w0 : World} (hw : X.w = w0) {ex tg iter : Expr} {ifs : List Expr} {scope : Scope} {own : List (Str × Nat)} {pos : Pos} {wi : TI} {g : TG} {tt : TT} {te : TE} (calm : X.calm = true) (nd : X.N.Nodup) (src : PI X tg iter wi) (blk : BlkOk X.N X.env.scope scope own)
    (pG : ∀ (z : Shared) (G : Hp) (C : Addr) (cl : List (Str × Addr)) (fp : List Addr), PG (X.blk z G scope (compEnvC scope cl C X.env) fp) tg g) (pT : ∀ (z : Shared) (G : Hp) (C : Addr) (cl : List (Str × Addr)) (fp : List Addr), PTs (X.blk z G scope (compEnvC scope cl C X.env) fp) ifs tt)
    (pE : ∀ (z : Shared) (G : Hp) (C : Addr) (cl : List (Str × Addr)) (fp : List Addr), PE (X.blk z G scope (compEnvC scope cl C X.env) fp) ex te) (plain : ∀ x, foldedSetIterable iter X.env x = pure x := by intro _; rfl) :
    PE X (.SetComp ex [⟨tg, iter, ifs, 0⟩] scope pos) (tScG (IntSet w0) (fun _ => false, 0) moreI wi g tt te (own.map (·.2))) := by
  subst hw
  exact pe_scW (kdI X) rfl rfl rfl calm nd src blk pG pT pE plain
theorem lt_of_le_nd : ∀ {l : List Int}, l.Pairwise (· ≤ ·) → l.Nodup → l.Pairwise (· < ·) := fun {l} h d => lt_of_le_nodup l h d
/-- sorted(found), any number of them -/
theorem sorted_setI {P : Program} {w : World} {A : Around} {E : Value → Shared → Prop} {s : Shared} {a : Addr} {S : Int → Bool} {n : Nat} {Q : Value → Shared → Prop} (R : SetR w s.heap a S n) (calm : A.handled = none)
    (q : ∀ (z : Shared) (p : Addr) (out : List Value) (c : Nat) (ns : List Int), (∀ b o, s.heap.get? b = some o → z.heap.get? b = some o) → z.gens = s.gens → z.os = s.os → s.heap.objs.size ≤ p → z.heap.get? p = some (seqObj "list" out.toArray c) → IntsAre out ns → ns.Pairwise (· < ·) → (∀ k, k ∈ ns ↔ S k = true) → ns.length = n → Q (.ref p) z) :
    wpAny (model P w) A (call (.builtin "sorted") [.ref a]) Q E s := by
  obtain ⟨o, es, ep, tb, at_, exact_, data, good, apart, mem, few, fits, size, rises, order⟩ := R
  refine Calls.call_function_entry kind_sorted plain_sorted entry_sorted (args_sorted1 _) ?_
  unfold Builtin.«sorted»; refine wpAny_bind (m := checkCount "sorted" 1 1 _) (wpAny_pure ?_)
  refine wpAny_bind (collect_set (A := A.in1) calm ⟨o, at_, exact_.1, data⟩ fits few rises order ?_)
  intro z vs keep big gens os perm
  have vl : vs.length = n := by
    rw [perm.length_eq, List.length_map, Array.length_toList]
    exact size
  have small : vs.length ≤ sizeLine := by
    rw [vl, ← size]
    exact fits_of_scanBound few
  have nums : IntsAre vs (vs.map Builtin.Re.reRawOf) := ints_of vs fun v hv => by
    obtain ⟨e, he, rfl⟩ := List.mem_map.mp (perm.mem_iff.mp hv)
    obtain ⟨k, tk, h1, _⟩ := good e he
    exact ⟨k, tk, h1⟩
  have keys : (vs.map Builtin.Re.reRawOf).Perm (es.toList.map keyOf) := by
    have := perm.map Builtin.Re.reRawOf
    rw [List.map_map] at this
    exact this
  refine wpAny_bind (wpAny_newList ?_ small)
  have list : (z.heap.push (seqObj "list" vs.toArray 0)).get? z.heap.objs.size = some (seqObj "list" vs.toArray 0) := Heap.get?_push_size _ rfl
  refine wpAny_bind (wpAny_holding (wpAny_call_entry slot_list_sort ⟨_, list, rfl⟩ entry_list_sort ?_ (args_list_sort _)))
  refine SrtO.list_sort_ord SrtO.swo_int list small (fun two => SrtO.ints_sortable nums two) fun out sorted stable => ⟨_, rfl, ?_⟩
  obtain ⟨i1, i2, i3⟩ := SrtO.ints_out nums sorted stable
  obtain ⟨c, made⟩ := sortedHeap_at (vs := vs) (out := out.toArray) list
  have all : (out.map SrtO.iv).Perm (es.toList.map keyOf) := i2.trans keys
  refine wpAny_pure ⟨_, rfl, q _ z.heap.objs.size out c (out.map SrtO.iv) (fun b u e => ?_) gens os big made i1 (lt_of_le_nd i3 (all.nodup_iff.mpr apart)) (fun k => by rw [all.mem_iff, ← mem k]) ?_⟩
  · have old := keep b u e
    have lt := Heap.lt_size old
    show (sortedHeap (z.heap.push (seqObj "list" vs.toArray 0)) z.heap.objs.size vs out.toArray).get? b = some u
    rw [sortedHeap_old (Nat.ne_of_lt lt) (by rw [size_push']; exact Nat.lt_succ_of_lt lt)]
    exact Heap.get?_push_of_some _ old
  · rw [all.length_eq, List.length_map, Array.length_toList]
    exact size
def rSrtI (w : World) : List V → Hp → VK → Prop := fun vs H Q => ∃ (a : Addr) (x : (Int → Bool) × Nat), vs = [V.ref a] ∧ H a = some (IntSet w a x) ∧
  ∀ (ns : List Int) (p : Addr), ns.Pairwise (· < ·) → (∀ k : Int, k ∈ ns ↔ x.1 k = true) → ns.length = x.2 → H p = none → Q (.ref p) (upd H p (.lst (ns.map V.int)))
theorem cr_srtI (calm : X.calm = true) : CallR X (.builtin "sorted") (rSrtI X.w) := by
  rintro pins s σ H vs us Q J r ⟨a, x, rfl, ha, q⟩
  have R := setO_get J ha
  have few : x.2 ≤ sizeLine := by
    obtain ⟨_, es, _, _, _, _, _, _, _, _, lt, _, n, _⟩ := id R
    rw [← n]
    exact fits_of_scanBound lt
  rw [Vals.ref1 r]
  refine sorted_setI R (J.ok.hd calm) ?_
  intro z p out c ns keep gens os big made nums up mem len
  have free : H p = none := J.hok.fresh big
  have K' : Inv X pins σ (upd H p (.lst (ns.map V.int))) { s with heap := z.heap, gens := z.gens, drawn := z.drawn, toks := z.toks } :=
    J.call (ch := []) (Un.laid keep big free) (J.hok.laid keep big ⟨by rw [List.length_map, len]; exact few, out, c, vals_of_ints nums, made⟩) (by rw [gens]; exact J.bare) (fun _ y => nomatch y)
  have same : z = { s with heap := z.heap, gens := z.gens, drawn := z.drawn, toks := z.toks } := by
    cases z; cases s
    cases os
    rfl
  rw [same]
  exact ⟨.ref p, _, K', rfl, q ns p up mem len free⟩
end
section
variable {α : Type} {K : PySem.W.Frag} {H : Hp} {σ : L2.St} {Q : VK} {O : Addr → α → HO} {nil : α} {more : Hp → α → V → α → Prop}
def SB (O : Addr → α → HO) (nil : α) (more : Hp → α → V → α → Prop) (J : It) (g : TG) (tt : TT) (te : TE) (vs : List Nat) (σ : L2.St) (H : Hp) (Q : VK) : Prop := tScG O nil more (fun _ H R => R J H) g tt te vs σ H Q
theorem w_scG {wi : TI} {g : TG} {tt : TT} {te : TE} {vs : List Nat} (h : wi σ H fun J H1 => SB O nil more J g tt te vs σ H1 Q) : tScG O nil more wi g tt te vs σ H Q := h
theorem sb_list {a : Addr} (xs : List V) {g : TG} {tt : TT} {te : TE} {vs : List Nat} (Pv : Addr → Nat → Hp → Prop) (h0 : ∀ D, H D = none → Pv D 0 (upd H D (O D nil))) (hl : ∀ D, H D = none → ∀ i H1, i ≤ xs.length → Pv D i H1 → SqL K H1 a xs)
    (hs : ∀ D, H D = none → ∀ i x H1, xs[i]? = some x → Pv D i H1 → g x (wipe σ vs) H1 fun σ2 H2 => wipe σ2 vs = wipe σ vs ∧ tt σ2 H2 fun yes H3 =>
      if yes = true then te σ2 H3 fun y H4 => ∃ x x' : α, H4 D = some (O D x) ∧ more H4 x y x' ∧ Pv D (i + 1) (upd H4 D (O D x')) else Pv D (i + 1) H3) (hd : ∀ D, H D = none → ∀ H1, Pv D xs.length H1 → Q (.ref D) H1) : SB O nil more (Itl K a) g tt te vs σ H Q := by
  intro D hD
  refine ⟨fun i m G => m = xs.length - i ∧ i ≤ xs.length ∧ Pv D i G, ⟨_, rfl, Nat.zero_le _, h0 D hD⟩, ?_⟩
  rintro i m G ⟨rfl, le, p⟩
  have seq := hl D hD i G le p
  rcases Nat.lt_or_ge i xs.length with lt | ge
  · refine .inr ⟨⟨xs, xs[i], seq, by simp [lt]⟩, Pv D (i + 1), fun G' p' => ⟨xs.length - (i + 1), by omega, rfl, lt, p'⟩, ?_⟩
    rintro x G' ⟨rfl, is⟩
    exact hs D hD i x _ (is xs seq) p
  · have e : i = xs.length := by omega
    subst e
    exact .inl ⟨⟨xs, seq, Nat.le_refl _⟩, hd D hD G p⟩
end
end Ct

/-! set(xs) of a list or a tuple of whole numbers -/
namespace Ct
open PySem PySem.Spec PyProof.Rows L2
@[reducible] def fresh0 (w : World) : Obj := { cls := .type "set", dict := none, data := .set #[] 0 (.fresh 0 0 (!w.params.followText "set-order")) }
set_option maxHeartbeats 6400000 in
theorem set_of_list {P : Program} {w : World} {A : Around} {E : Value → Shared → Prop} {s : Shared} {l : Addr} {its : Array Value} (ns : List Int) {Q : Value → Shared → Prop} (calm : A.handled = none) (src : s.heap.IsList l its) (nums : IntsAre its.toList ns) (few : ns.length + 1 < scanBound)
    (q : ∀ (h' : Heap) (tk c : Nat), SetR w h' s.heap.objs.size (fun j => decide (j ∈ ns)) c → c ≤ ns.length → (∀ b o, s.heap.get? b = some o → h'.get? b = some o) → Q (.ref s.heap.objs.size) { s with heap := h', toks := tk }) : wpAny (model P w) A (call (.type "set") [.ref l]) Q E s := by
  have many : its.size = ns.length := by
    have := IntsAre.length nums
    rw [Array.length_toList] at this
    exact this
  obtain ⟨_, _, m0⟩ := F.called_set.mro
  have m1 := F.called_set.made; have m2 := F.called_set.sub
  refine wpAny_call (codeAny_of_tree ?_); show wpAny _ _ (callAny (.type "set") _) _ _ _
  refine wpAny_pure ⟨Code.quiet_builtin _ (by decide +kernel), codeAny_builtin F.entry_type_call ?_⟩; rw [Around.under_plain (weight_type_call_type "set" [.ref l] []) rfl]
  have m3 := F.called_set.notType; have m4 := F.called_set.canCreate; have m5 := F.typeCall_set_1 (.ref l)
  repeat (any_goals (first | assumption | wp_step))
  refine codeAny_mono (code_set_led1 (.ref l) (E := E) (Q₁ := fun obj z => obj = .ref s.heap.objs.size ∧ z = { s with heap := s.heap.push (fresh0 w) }) ⟨rfl, rfl⟩) fun r z hr => ?_
  match r, hr with
  | .error e, hr => exact hr
  | .ok (.ret obj), hr =>
    obtain ⟨rfl, rfl⟩ := hr
    have made : (s.heap.push (fresh0 w)).get? s.heap.objs.size = some (fresh0 w) := Heap.get?_push_size _ rfl
    have ty : Shared.TypeIs { s with heap := s.heap.push (fresh0 w) } (.ref s.heap.objs.size) "set" := ⟨_, made, rfl⟩
    have m6 := F.called_set.init.lookup; have m7 := F.called_set.init.bind (.ref s.heap.objs.size)
    repeat (any_goals (first | assumption | wp_step))
    refine codeAny_mono (codeAny_call_builtin (R := wants (fun r y => r = .none ∧ ∃ h' tk c, y = { s with heap := h', toks := tk } ∧ SetR w h' s.heap.objs.size (fun j => decide (j ∈ ns)) c ∧ c ≤ ns.length ∧ ∀ b o, s.heap.get? b = some o → h'.get? b = some o) E) F.called_set.init.plain F.entry_set_init (check_set_init_1 ty ?_)) fun r y hr => ?_
    · obtain ⟨⟨cl, dc, dt, sls⟩, at_, c0, n0, d0⟩ := src
      simp only at c0 d0
      subst c0; subst d0
      have there : (s.heap.push (fresh0 w)).get? l = some { cls := .type "list", dict := dc, data := .seq its n0, slots := sls } := Heap.get?_push_of_some _ at_
      have m8 := F.sub_list_set; have m9 := F.sub_list_frozenset
      have mA : (Value.type "list" == Value.type "dict") = false := by decide
      have lst : (s.heap.push (fresh0 w)).IsList l its := ⟨_, there, rfl, n0, rfl⟩
      unfold Builtin.«set.__init__» noKeywords Builtin.Frozenset.updateFrom; generalize keepIt : pyIter = PI
      wp_walk
      subst keepIt
      refine wpAny_pyIter_list lst (wpAny_bind (wpAny_runValue ?_))
      have lt : l < s.heap.objs.size := Heap.lt_size at_
      have calm3 : A.in1.in1.in1.handled = none := by simp [calm]
      have apart : l ≠ (s.heap.push (fresh0 w)).objs.size := by
        rw [Heap.size_push]
        exact Nat.ne_of_lt (Nat.lt_succ_of_lt lt)
      have out : s.heap.objs.size ∉ [(s.heap.push (fresh0 w)).objs.size, l] := by
        rw [Heap.size_push]
        simp only [List.mem_cons, List.not_mem_nil, or_false, not_or]
        exact ⟨Nat.ne_of_lt (Nat.lt_succ_self _), Nat.ne_of_gt lt⟩
      have vals : ∀ (i : Nat) (v : Value), its[i]? = some v → ∃ k t, ns[i]? = some k ∧ v = .int k t := fun i v hv => by
        have hi : i < ns.length := by
          rw [← many]
          exact (Array.getElem?_eq_some_iff.mp hv).1
        obtain ⟨t, e⟩ := PyProof.Rows.IntsAre.int_at nums i v (by rw [Array.getElem?_toList]; exact hv)
        exact ⟨ns[i], t, List.getElem?_eq_getElem hi, by rw [e, List.getD_eq_getElem?_getD, List.getElem?_eq_getElem hi]; rfl⟩
      refine set_update_ints ((Walks.list calm3 _ l apart its).toS) s.heap.objs.size out ns many few vals (its.size - 0) 0 _ (by omega) (Nat.zero_le _) ⟨⟨_, Heap.get?_push_size _ rfl, rfl, rfl⟩, (lst.push _)⟩ ⟨0, Nat.le_refl 0, setR_new_at (Heap.get?_push_of_some _ made)⟩ ?_
      rintro ⟨h', g2, d', tk', os'⟩ c' mv le sr
      have e1 : g2 = s.gens := mv.gens
      have e2 : d' = s.drawn := mv.drawn
      have e3 : os' = s.os := mv.os
      subst e1 e2 e3
      show wpAny _ _ _ _ _ _
      refine wpAny_pure ?_
      show wpAny _ _ (ret Value.none) _ _ _
      rw [many] at le
      refine wpAny_pure ⟨rfl, h', tk', c', rfl, sr, le, fun b o e => ?_⟩
      have lb : b < s.heap.objs.size := Heap.lt_size e
      refine mv.heap b o ?_ (Heap.get?_push_of_some _ (Heap.get?_push_of_some _ e))
      rw [Heap.size_push]
      simp only [List.mem_cons, List.not_mem_nil, or_false, not_or]
      exact ⟨Nat.ne_of_lt lb, Nat.ne_of_lt (Nat.lt_succ_of_lt lb)⟩
    · match r, hr with
      | .error e, hr => exact hr
      | .ok (.ret u), hr =>
        obtain ⟨rfl, h', tk, c', rfl, sr, le, keep⟩ := hr
        repeat (any_goals (first | assumption | wp_step))
        exact q _ _ _ sr le keep
      | .ok .next, hr => exact hr.elim
      | .ok .brk, hr => exact hr.elim
      | .ok .cont, hr => exact hr.elim
  | .ok .next, hr => exact hr.elim
  | .ok .brk, hr => exact hr.elim
  | .ok .cont, hr => exact hr.elim
section
variable {X : Cx}
def rSetI (K : PySem.W.Frag) (w : World) : List V → Hp → VK → Prop := fun xs H Q => ∃ (l : Addr) (ns : List Int), xs = [V.ref l] ∧ (SqL K H l (ns.map V.int) ∨ SqT K H l (ns.map V.int)) ∧ ns.length ≤ 4000 ∧ ∀ a c, H a = none → c ≤ ns.length → Q (.ref a) (upd H a (IntSet w a (fun j => decide (j ∈ ns), c)))
theorem cr_setI (calm : X.calm = true) : CallR X (.type "set") (rSetI X.K X.w) := by
  rintro pins s σ H xs us Q J r ⟨l, ns, rfl, src, few, q⟩
  rw [Vals.ref1 r]
  have fin : ∀ (h' : Heap) (tk c : Nat), SetR X.w h' s.heap.objs.size (fun j => decide (j ∈ ns)) c → c ≤ ns.length → (∀ b o, s.heap.get? b = some o → h'.get? b = some o) → EP X pins σ Q (.ref s.heap.objs.size) { s with heap := h', toks := tk } := fun h' tk c sr le keep =>
    ⟨.ref _, upd H s.heap.objs.size (IntSet X.w s.heap.objs.size (fun j => decide (j ∈ ns), c)), J.laid (t' := tk) keep (Nat.le_refl _) (setO_new sr), rfl, q _ c (J.hok.fresh (Nat.le_refl _)) le⟩
  have few' : ns.length + 1 < scanBound := by show ns.length + 1 < 4096; omega
  rcases src with src | src
  · obtain ⟨its, rv, lst, _⟩ := J.list src
    exact set_of_list ns (J.ok.hd calm) lst.isList (by simpa using rv.ints) few' fin
  · obtain ⟨its, rv, tup, _⟩ := J.tuple src
    exact call_set_tupI ns (J.ok.hd calm) tup (by simpa using rv.ints) few' fin
end
end Ct

/-! zip of three lists -/
namespace Ct
open PySem PySem.Spec PyProof.Rows L2
def Itz3 (K : PySem.W.Frag) (a b d : Addr) : It where
  go := fun i H => ∃ (xs ys zs : List V) (x y z : V), SqL K H a xs ∧ SqL K H b ys ∧ SqL K H d zs ∧ xs[i]? = some x ∧ ys[i]? = some y ∧ zs[i]? = some z
  yld := fun i H v H' => ∃ T x y z, v = .ref T ∧ H T = none ∧ H' = upd H T (.tup [x, y, z]) ∧ (∀ xs, SqL K H a xs → xs[i]? = some x) ∧ (∀ ys, SqL K H b ys → ys[i]? = some y) ∧ ∀ zs, SqL K H d zs → zs[i]? = some z
  stop := fun i H => ∃ xs ys zs : List V, SqL K H a xs ∧ SqL K H b ys ∧ SqL K H d zs ∧ min (min xs.length ys.length) zs.length = i
abbrev ZSt3 (a b d z TI TO i1 i2 i3 : Addr) (i : Nat) (h : Heap) : Prop :=
  IsZip h z TI TO .none ∧ IsTupOf3 h TI (.ref i1) (.ref i2) (.ref i3) ∧ (∃ a1 a2 a3, IsTupOf3 h TO a1 a2 a3) ∧ h.IsListIter i1 a i ∧ h.IsListIter i2 b i ∧ h.IsListIter i3 d i
theorem turnZ3 {P : Program} {w : World} {K : PySem.W.Frag} {es : List Expr} {kk : Nat} {tp : Pos} {a b d N : Nat} (ha : a < N) (hb : b < N) (hd : d < N) :
    Turn P w K (.Tuple es kk tp) (Itz3 K a b d) [N + 5, N + 3, N + 4, N, N + 1, N + 2] (N + 5) (ZSt3 a b d (N + 5) (N + 3) (N + 4) N (N + 1) (N + 2)) := by
  have sep : ZipSep3 (N + 5) (N + 3) (N + 4) N (N + 1) (N + 2) [N, a] [N + 1, b] [N + 2, d] := zip_sep3 (fun c hc => by rw [List.mem_singleton] at hc; rw [hc]; exact ha) (fun c hc => by rw [List.mem_singleton] at hc; rw [hc]; exact hb) fun c hc => by rw [List.mem_singleton] at hc; rw [hc]; exact hd
  have wrfp : ∀ {c : Nat}, c ∉ [N + 5, N + 3, N + 4, N, N + 1, N + 2] → c ∉ [N + 5, N + 4, N, N + 1, N + 2] := fun {c} hc hm => hc (by
    simp only [List.mem_cons, List.not_mem_nil, or_false] at hm ⊢
    omega)
  refine ⟨List.mem_cons_self, fun i h st c hc => ?_, fun i h h' st k => ?_, ?_, ?_, fun A i s Q E st h => wpAny_pyIter_zip st.1 h⟩
  · obtain ⟨s1, s2, ⟨u, v, y, s3⟩, ⟨o1, g1, _, d1⟩, ⟨o2, g2, _, d2⟩, ⟨o3, g3, _, d3⟩⟩ := st
    simp only [List.mem_cons, List.not_mem_nil, or_false] at hc
    rcases hc with e | e | e | e | e | e <;> subst e
    · exact ⟨_, s1, fun v q => nomatch q⟩
    · exact ⟨_, s2, fun v q => nomatch q⟩
    · exact ⟨_, s3, fun v q => nomatch q⟩
    · exact ⟨o1, g1, fun v q => by rw [d1] at q; cases q⟩
    · exact ⟨o2, g2, fun v q => by rw [d2] at q; cases q⟩
    · exact ⟨o3, g3, fun v q => by rw [d3] at q; cases q⟩
  · obtain ⟨s1, s2, ⟨u, v, y, s3⟩, s4, s5, s6⟩ := st
    exact ⟨k _ (by simp) _ s1, k _ (by simp) _ s2, ⟨u, v, y, k _ (by simp) _ s3⟩, s4.at fun o q => k N (by simp) o q, s5.at fun o q => k (N + 1) (by simp) o q, s6.at fun o q => k (N + 2) (by simp) o q⟩
  · intro X eP ew eK calm i pins s σ H E I hf st hg
    subst eP ew eK
    obtain ⟨xs, ys, zs, x, y, z, lx, ly, lz, gx, gy, gz⟩ := hg
    obtain ⟨us, rx, px, _⟩ := I.list lx
    obtain ⟨vs, ry, py, _⟩ := I.list ly
    obtain ⟨ts, rz, pz, _⟩ := I.list lz
    obtain ⟨s1, s2, s3, s4, s5, s6⟩ := st
    have hh : X.A.in1.handled = none := I.ok.hd calm
    have G := GoesN.zip3 (elts := es) (x1 := kk) (pos := tp) sep (Draws.list (prog := X.prog) (w := X.w) hh N a (Nat.ne_of_lt ha) us.toArray) (Draws.list (prog := X.prog) (w := X.w) hh (N + 1) b (Nat.ne_of_lt (Nat.lt_succ_of_lt hb)) vs.toArray) (Draws.list (prog := X.prog) (w := X.w) hh (N + 2) d (Nat.ne_of_lt (Nat.lt_succ_of_lt (Nat.lt_succ_of_lt hd))) ts.toArray)
    have lu := rx.length; have lv := ry.length; have lt := rz.length
    have ix : i < xs.length := (List.getElem?_eq_some_iff.mp gx).1
    have iy : i < ys.length := (List.getElem?_eq_some_iff.mp gy).1
    have iz : i < zs.length := (List.getElem?_eq_some_iff.mp gz).1
    refine G.goes i s _ E (by rw [List.size_toArray, List.size_toArray, List.size_toArray]; omega) ⟨s1, s2, s3, ⟨s4, px.isList⟩, ⟨s5, py.isList⟩, ⟨s6, pz.isList⟩⟩ fun v h' tk hY st' hk _ => ?_
    obtain ⟨T, u1, u2, u3, rfl, hT, q1, q2, q3, hTu⟩ := hY
    obtain ⟨w1, e1, r1⟩ := rx.get gx
    obtain ⟨w2, e2, r2⟩ := ry.get gy
    obtain ⟨w3, e3, r3⟩ := rz.get gz
    have f1 : w1 = u1 := Option.some.inj (e1.symm.trans (by simpa using q1))
    have f2 : w2 = u2 := Option.some.inj (e2.symm.trans (by simpa using q2))
    have f3 : w3 = u3 := Option.some.inj (e3.symm.trans (by simpa using q3))
    subst f1 f2 f3
    have new : ObjOk X.prog X.w (upd H T (.tup [x, y, z])) h' T (.tup [x, y, z]) := ⟨len2 rfl, [w1, w2, w3], .cons r1 (.cons r2 (.cons r3 .nil)), hTu⟩
    refine ⟨.ref T, _, I.turnedNew (t' := tk) (fun c o hc e => hk c o (wrfp hc) e) hf hT new, rfl, ⟨T, x, y, z, rfl, I.hok.fresh hT, rfl, fun l hl => by rw [I.list_inj hl lx]; exact gx, fun l hl => by rw [I.list_inj hl ly]; exact gy, fun l hl => by rw [I.list_inj hl lz]; exact gz⟩, ⟨st'.1, st'.2.1, st'.2.2.1, st'.2.2.2.1.1, st'.2.2.2.2.1.1, st'.2.2.2.2.2.1⟩, fun c hc => ?_⟩
    obtain ⟨o, g, _⟩ : ∃ o, s.heap.get? c = some o ∧ True := by
      obtain ⟨u, v, t, s3⟩ := s3
      obtain ⟨o1, g1, _⟩ := s4
      obtain ⟨o2, g2, _⟩ := s5
      obtain ⟨o3, g3, _⟩ := s6
      simp only [List.mem_cons, List.not_mem_nil, or_false] at hc
      rcases hc with e | e | e | e | e | e <;> subst e
      · exact ⟨_, s1, trivial⟩
      · exact ⟨_, s2, trivial⟩
      · exact ⟨_, s3, trivial⟩
      · exact ⟨_, g1, trivial⟩
      · exact ⟨_, g2, trivial⟩
      · exact ⟨_, g3, trivial⟩
    rw [upd_ne (Nat.ne_of_lt (Nat.lt_of_lt_of_le (Heap.lt_size g) hT))]
    exact (hf c hc).1
  · intro X eP ew eK calm i pins s σ H E I hf st hg
    subst eP ew eK
    obtain ⟨xs, ys, zs, lx, ly, lz, hm⟩ := hg
    obtain ⟨us, rx, px, _⟩ := I.list lx
    obtain ⟨vs, ry, py, _⟩ := I.list ly
    obtain ⟨ts, rz, pz, _⟩ := I.list lz
    obtain ⟨s1, s2, s3, s4, s5, s6⟩ := st
    have hh : X.A.in1.handled = none := I.ok.hd calm
    have G := GoesN.zip3 (elts := es) (x1 := kk) (pos := tp) sep (Draws.list (prog := X.prog) (w := X.w) hh N a (Nat.ne_of_lt ha) us.toArray) (Draws.list (prog := X.prog) (w := X.w) hh (N + 1) b (Nat.ne_of_lt (Nat.lt_succ_of_lt hb)) vs.toArray) (Draws.list (prog := X.prog) (w := X.w) hh (N + 2) d (Nat.ne_of_lt (Nat.lt_succ_of_lt (Nat.lt_succ_of_lt hd))) ts.toArray)
    have lu := rx.length; have lv := ry.length; have lt := rz.length
    have hn : min (min us.toArray.size vs.toArray.size) ts.toArray.size = i := by rw [List.size_toArray, List.size_toArray, List.size_toArray]; omega
    rw [hn] at G
    exact G.stops s _ E ⟨s1, s2, s3, ⟨s4, px.isList⟩, ⟨s5, py.isList⟩, ⟨s6, pz.isList⟩⟩ fun h' tk hk _ => I.turnedL (t' := tk) (fun c o hc e => hk c o (wrfp hc) e) hf
def iZ3 (K : PySem.W.Frag) (ta : TA) : TI := fun σ H R => ta σ H fun vs H1 => ∃ a b d xs ys zs, vs = [.ref a, .ref b, .ref d] ∧ SqL K H1 a xs ∧ SqL K H1 b ys ∧ SqL K H1 d zs ∧ R (Itz3 K a b d) H1
theorem pi_zip3 {X : Cx} {e e2 e3 : Expr} {ta : TA} {p pos tp : Pos} {es : List Expr} {kk : Nat} (gl : Gl X "zip") (mz : X.mg "zip" = none) (pa : PA X [e, e2, e3] ta)
    (se : starEach [e, e2, e3] X.env = (false, eval e X.env) :: starEach [e2, e3] X.env := by rfl) (bk : (backTo pos (starEach [e2, e3] X.env)).any (·.1) = false := by rfl) : PI X (.Tuple es kk tp) (.Call (.Name "zip" p) [e, e2, e3] [] pos) (iZ3 X.K ta) := by
  refine ⟨fun pins s σ H R I h => Call_ (ld_blt I gl mz boot_zip (callWith_type1 (thn (pa.run pos pins s σ H _ I h) fun us s1 ⟨vs, H1, I1, r1, q1⟩ => ?_) se bk))⟩
  obtain ⟨a, b, d, xs, ys, zs, rfl, lx, ly, lz, q⟩ := q1
  cases r1 with
  | cons ra rr => cases rr with
    | cons rb rs => cases rs with
      | cons rc rn =>
        cases rn
        cases ra
        cases rb
        cases rc
        obtain ⟨us, rx, px, _⟩ := I1.list lx
        obtain ⟨vs, ry, py, _⟩ := I1.list ly
        obtain ⟨ts, rz, pz, _⟩ := I1.list lz
        refine zip_begins3 (begins_list a us.toArray) (begins_list b vs.toArray) (begins_list d ts.toArray) px.isList py.isList pz.isList fun h' z1 z2 z3 g1 g2 g3 _ hk => wpAny_pyIter_zip z1 ?_
        have I2 : Inv X pins σ H1 { s1 with heap := h' } := I1.kept (t' := s1.toks) hk
        refine ⟨_, _, _, _, H1, rfl, I2, turnZ3 px.lt py.lt pz.lt, ⟨z1, z2, ⟨_, _, _, z3⟩, ⟨_, g1, rfl, rfl⟩, ⟨_, g2, rfl, rfl⟩, ⟨_, g3, rfl, rfl⟩⟩, fun c hc => ?_, q⟩
        have hle : s1.heap.objs.size ≤ c := by
          simp only [List.mem_cons, List.not_mem_nil, or_false] at hc
          rcases hc with e | e | e | e | e | e <;> subst e <;> first | exact Nat.le_add_right _ _ | exact Nat.le_refl _
        exact I1.fpOk hle (I1.hok.fresh hle)
section
variable {K : PySem.W.Frag} {H : Hp} {σ : L2.St} {D : Ends} {R : It → Hp → Prop}
def IZ3 (K : PySem.W.Frag) (vs : List V) (H : Hp) (R : It → Hp → Prop) : Prop := iZ3 K (fun _ H Q => Q vs H) [] H R
theorem w_iz3 {ta : TA} (h : ta σ H fun vs H1 => IZ3 K vs H1 R) : iZ3 K ta σ H R := h
theorem w_IZ3 {a b d : Addr} {xs ys zs : List V} (h1 : SqL K H a xs) (h2 : SqL K H b ys) (h3 : SqL K H d zs) (q : R (Itz3 K a b d) H) : IZ3 K [.ref a, .ref b, .ref d] H R := ⟨a, b, d, xs, ys, zs, rfl, h1, h2, h3, q⟩
theorem fb_zip3 {a b d : Addr} (xs ys zs : List V) (hl : xs.length = ys.length) (hl2 : xs.length = zs.length) {g : TG} {tb : TS} (Pv : Nat → L2.St → Hp → Prop) (h0 : Pv 0 σ H) (hq : ∀ i σ H, i ≤ xs.length → Pv i σ H → SqL K H a xs ∧ SqL K H b ys ∧ SqL K H d zs)
    (hs : ∀ i x y z T σ H, xs[i]? = some x → ys[i]? = some y → zs[i]? = some z → Pv i σ H → H T = none → g (.ref T) σ (upd H T (.tup [x, y, z])) fun σ2 H2 => tb { D with nx := Pv (i + 1), ct := Pv (i + 1), bk := D.nx } σ2 H2) (hd : ∀ σ H, Pv xs.length σ H → D.nx σ H) : FB (Itz3 K a b d) g tb D σ H := by
  refine ⟨fun i m σ H => m = xs.length - i ∧ i ≤ xs.length ∧ Pv i σ H, ⟨xs.length, rfl, Nat.zero_le _, h0⟩, ?_⟩
  rintro i m σ H ⟨rfl, hi, p⟩
  obtain ⟨q1, q2, q3⟩ := hq i σ H hi p
  by_cases hlt : i < xs.length
  · refine .inr ⟨⟨xs, ys, zs, _, _, _, q1, q2, q3, List.getElem?_eq_getElem hlt, List.getElem?_eq_getElem (hl ▸ hlt), List.getElem?_eq_getElem (hl2 ▸ hlt)⟩, Pv (i + 1), fun σ' H' p' => ⟨xs.length - (i + 1), by omega, rfl, hlt, p'⟩, fun v H' y => ?_⟩
    obtain ⟨T, x1, x2, x3, rfl, hT, rfl, f1, f2, f3⟩ := y
    exact hs i x1 x2 x3 T σ H (f1 _ q1) (f2 _ q2) (f3 _ q3) p hT
  · exact .inl ⟨⟨xs, ys, zs, q1, q2, q3, by omega⟩, hd σ H (by rw [show xs.length = i by omega]; exact p)⟩
end
end Ct

/-! zip of a list, a tuple and a list -/
namespace Ct
open PySem PySem.Spec PyProof.Rows L2
def Itm3 (K : PySem.W.Frag) (a b d : Addr) : It where
  go := fun i H => ∃ (xs ys zs : List V) (x y z : V), SqL K H a xs ∧ SqT K H b ys ∧ SqL K H d zs ∧ xs[i]? = some x ∧ ys[i]? = some y ∧ zs[i]? = some z
  yld := fun i H v H' => ∃ T x y z, v = .ref T ∧ H T = none ∧ H' = upd H T (.tup [x, y, z]) ∧ (∀ xs, SqL K H a xs → xs[i]? = some x) ∧ (∀ ys, SqT K H b ys → ys[i]? = some y) ∧ ∀ zs, SqL K H d zs → zs[i]? = some z
  stop := fun i H => ∃ xs ys zs : List V, SqL K H a xs ∧ SqT K H b ys ∧ SqL K H d zs ∧ min (min xs.length ys.length) zs.length = i
abbrev ZSm3 (a b d z TI TO i1 i2 i3 : Addr) (i : Nat) (h : Heap) : Prop :=
  IsZip h z TI TO .none ∧ IsTupOf3 h TI (.ref i1) (.ref i2) (.ref i3) ∧ (∃ a1 a2 a3, IsTupOf3 h TO a1 a2 a3) ∧ h.IsListIter i1 a i ∧ h.IsTupleIter i2 b i ∧ h.IsListIter i3 d i
theorem turnM3 {P : Program} {w : World} {K : PySem.W.Frag} {es : List Expr} {kk : Nat} {tp : Pos} {a b d N : Nat} (ha : a < N) (hb : b < N) (hd : d < N) :
    Turn P w K (.Tuple es kk tp) (Itm3 K a b d) [N + 5, N + 3, N + 4, N, N + 1, N + 2] (N + 5) (ZSm3 a b d (N + 5) (N + 3) (N + 4) N (N + 1) (N + 2)) := by
  have sep : ZipSep3 (N + 5) (N + 3) (N + 4) N (N + 1) (N + 2) [N, a] [N + 1, b] [N + 2, d] := zip_sep3 (fun c hc => by rw [List.mem_singleton] at hc; rw [hc]; exact ha) (fun c hc => by rw [List.mem_singleton] at hc; rw [hc]; exact hb) fun c hc => by rw [List.mem_singleton] at hc; rw [hc]; exact hd
  have wrfp : ∀ {c : Nat}, c ∉ [N + 5, N + 3, N + 4, N, N + 1, N + 2] → c ∉ [N + 5, N + 4, N, N + 1, N + 2] := fun {c} hc hm => hc (by
    simp only [List.mem_cons, List.not_mem_nil, or_false] at hm ⊢
    omega)
  refine ⟨List.mem_cons_self, fun i h st c hc => ?_, fun i h h' st k => ?_, ?_, ?_, fun A i s Q E st h => wpAny_pyIter_zip st.1 h⟩
  · obtain ⟨s1, s2, ⟨u, v, y, s3⟩, ⟨o1, g1, _, d1⟩, ⟨o2, g2, _, d2⟩, ⟨o3, g3, _, d3⟩⟩ := st
    simp only [List.mem_cons, List.not_mem_nil, or_false] at hc
    rcases hc with e | e | e | e | e | e <;> subst e
    · exact ⟨_, s1, fun v q => nomatch q⟩
    · exact ⟨_, s2, fun v q => nomatch q⟩
    · exact ⟨_, s3, fun v q => nomatch q⟩
    · exact ⟨o1, g1, fun v q => by rw [d1] at q; cases q⟩
    · exact ⟨o2, g2, fun v q => by rw [d2] at q; cases q⟩
    · exact ⟨o3, g3, fun v q => by rw [d3] at q; cases q⟩
  · obtain ⟨s1, s2, ⟨u, v, y, s3⟩, s4, s5, s6⟩ := st
    exact ⟨k _ (by simp) _ s1, k _ (by simp) _ s2, ⟨u, v, y, k _ (by simp) _ s3⟩, s4.at fun o q => k N (by simp) o q, s5.at fun o q => k (N + 1) (by simp) o q, s6.at fun o q => k (N + 2) (by simp) o q⟩
  · intro X eP ew eK calm i pins s σ H E I hf st hg
    subst eP ew eK
    obtain ⟨xs, ys, zs, x, y, z, lx, ly, lz, gx, gy, gz⟩ := hg
    obtain ⟨us, rx, px, _⟩ := I.list lx
    obtain ⟨vs, ry, py, _⟩ := I.tuple ly
    obtain ⟨ts, rz, pz, _⟩ := I.list lz
    obtain ⟨s1, s2, s3, s4, s5, s6⟩ := st
    have hh : X.A.in1.handled = none := I.ok.hd calm
    have G := GoesN.zip3 (elts := es) (x1 := kk) (pos := tp) sep (Draws.list (prog := X.prog) (w := X.w) hh N a (Nat.ne_of_lt ha) us.toArray) (Draws.tuple (prog := X.prog) (w := X.w) hh (N + 1) b (Nat.ne_of_lt (Nat.lt_succ_of_lt hb)) vs.toArray) (Draws.list (prog := X.prog) (w := X.w) hh (N + 2) d (Nat.ne_of_lt (Nat.lt_succ_of_lt (Nat.lt_succ_of_lt hd))) ts.toArray)
    have lu := rx.length; have lv := ry.length; have lt := rz.length
    have ix : i < xs.length := (List.getElem?_eq_some_iff.mp gx).1
    have iy : i < ys.length := (List.getElem?_eq_some_iff.mp gy).1
    have iz : i < zs.length := (List.getElem?_eq_some_iff.mp gz).1
    refine G.goes i s _ E (by rw [List.size_toArray, List.size_toArray, List.size_toArray]; omega) ⟨s1, s2, s3, ⟨s4, px.isList⟩, ⟨s5, py⟩, ⟨s6, pz.isList⟩⟩ fun v h' tk hY st' hk _ => ?_
    obtain ⟨T, u1, u2, u3, rfl, hT, q1, q2, q3, hTu⟩ := hY
    obtain ⟨w1, e1, r1⟩ := rx.get gx
    obtain ⟨w2, e2, r2⟩ := ry.get gy
    obtain ⟨w3, e3, r3⟩ := rz.get gz
    have f1 : w1 = u1 := Option.some.inj (e1.symm.trans (by simpa using q1))
    have f2 : w2 = u2 := Option.some.inj (e2.symm.trans (by simpa using q2))
    have f3 : w3 = u3 := Option.some.inj (e3.symm.trans (by simpa using q3))
    subst f1 f2 f3
    have new : ObjOk X.prog X.w (upd H T (.tup [x, y, z])) h' T (.tup [x, y, z]) := ⟨len2 rfl, [w1, w2, w3], .cons r1 (.cons r2 (.cons r3 .nil)), hTu⟩
    refine ⟨.ref T, _, I.turnedNew (t' := tk) (fun c o hc e => hk c o (wrfp hc) e) hf hT new, rfl, ⟨T, x, y, z, rfl, I.hok.fresh hT, rfl, fun l hl => by rw [I.list_inj hl lx]; exact gx, fun l hl => by rw [I.tuple_inj hl ly]; exact gy, fun l hl => by rw [I.list_inj hl lz]; exact gz⟩, ⟨st'.1, st'.2.1, st'.2.2.1, st'.2.2.2.1.1, st'.2.2.2.2.1.1, st'.2.2.2.2.2.1⟩, fun c hc => ?_⟩
    obtain ⟨o, g, _⟩ : ∃ o, s.heap.get? c = some o ∧ True := by
      obtain ⟨u, v, t, s3⟩ := s3
      obtain ⟨o1, g1, _⟩ := s4
      obtain ⟨o2, g2, _⟩ := s5
      obtain ⟨o3, g3, _⟩ := s6
      simp only [List.mem_cons, List.not_mem_nil, or_false] at hc
      rcases hc with e | e | e | e | e | e <;> subst e
      · exact ⟨_, s1, trivial⟩
      · exact ⟨_, s2, trivial⟩
      · exact ⟨_, s3, trivial⟩
      · exact ⟨_, g1, trivial⟩
      · exact ⟨_, g2, trivial⟩
      · exact ⟨_, g3, trivial⟩
    rw [upd_ne (Nat.ne_of_lt (Nat.lt_of_lt_of_le (Heap.lt_size g) hT))]
    exact (hf c hc).1
  · intro X eP ew eK calm i pins s σ H E I hf st hg
    subst eP ew eK
    obtain ⟨xs, ys, zs, lx, ly, lz, hm⟩ := hg
    obtain ⟨us, rx, px, _⟩ := I.list lx
    obtain ⟨vs, ry, py, _⟩ := I.tuple ly
    obtain ⟨ts, rz, pz, _⟩ := I.list lz
    obtain ⟨s1, s2, s3, s4, s5, s6⟩ := st
    have hh : X.A.in1.handled = none := I.ok.hd calm
    have G := GoesN.zip3 (elts := es) (x1 := kk) (pos := tp) sep (Draws.list (prog := X.prog) (w := X.w) hh N a (Nat.ne_of_lt ha) us.toArray) (Draws.tuple (prog := X.prog) (w := X.w) hh (N + 1) b (Nat.ne_of_lt (Nat.lt_succ_of_lt hb)) vs.toArray) (Draws.list (prog := X.prog) (w := X.w) hh (N + 2) d (Nat.ne_of_lt (Nat.lt_succ_of_lt (Nat.lt_succ_of_lt hd))) ts.toArray)
    have lu := rx.length; have lv := ry.length; have lt := rz.length
    have hn : min (min us.toArray.size vs.toArray.size) ts.toArray.size = i := by rw [List.size_toArray, List.size_toArray, List.size_toArray]; omega
    rw [hn] at G
    exact G.stops s _ E ⟨s1, s2, s3, ⟨s4, px.isList⟩, ⟨s5, py⟩, ⟨s6, pz.isList⟩⟩ fun h' tk hk _ => I.turnedL (t' := tk) (fun c o hc e => hk c o (wrfp hc) e) hf
def iM3 (K : PySem.W.Frag) (ta : TA) : TI := fun σ H R => ta σ H fun vs H1 => ∃ a b d xs ys zs, vs = [.ref a, .ref b, .ref d] ∧ SqL K H1 a xs ∧ SqT K H1 b ys ∧ SqL K H1 d zs ∧ R (Itm3 K a b d) H1
theorem pi_zipM3 {X : Cx} {e e2 e3 : Expr} {ta : TA} {p pos tp : Pos} {es : List Expr} {kk : Nat} (gl : Gl X "zip") (mz : X.mg "zip" = none) (pa : PA X [e, e2, e3] ta)
    (se : starEach [e, e2, e3] X.env = (false, eval e X.env) :: starEach [e2, e3] X.env := by rfl) (bk : (backTo pos (starEach [e2, e3] X.env)).any (·.1) = false := by rfl) : PI X (.Tuple es kk tp) (.Call (.Name "zip" p) [e, e2, e3] [] pos) (iM3 X.K ta) := by
  refine ⟨fun pins s σ H R I h => Call_ (ld_blt I gl mz boot_zip (callWith_type1 (thn (pa.run pos pins s σ H _ I h) fun us s1 ⟨vs, H1, I1, r1, q1⟩ => ?_) se bk))⟩
  obtain ⟨a, b, d, xs, ys, zs, rfl, lx, ly, lz, q⟩ := q1
  cases r1 with
  | cons ra rr => cases rr with
    | cons rb rs => cases rs with
      | cons rc rn =>
        cases rn
        cases ra
        cases rb
        cases rc
        obtain ⟨us, rx, px, _⟩ := I1.list lx
        obtain ⟨vs, ry, py, _⟩ := I1.tuple ly
        obtain ⟨ts, rz, pz, _⟩ := I1.list lz
        obtain ⟨ob, gb, _⟩ := id py
        refine zip_begins3 (begins_list a us.toArray) (begins_tuple b vs.toArray) (begins_list d ts.toArray) px.isList py pz.isList fun h' z1 z2 z3 g1 g2 g3 _ hk => wpAny_pyIter_zip z1 ?_
        have I2 : Inv X pins σ H1 { s1 with heap := h' } := I1.kept (t' := s1.toks) hk
        refine ⟨_, _, _, _, H1, rfl, I2, turnM3 px.lt (Heap.lt_size gb) pz.lt, ⟨z1, z2, ⟨_, _, _, z3⟩, ⟨_, g1, rfl, rfl⟩, ⟨_, g2, rfl, rfl⟩, ⟨_, g3, rfl, rfl⟩⟩, fun c hc => ?_, q⟩
        have hle : s1.heap.objs.size ≤ c := by
          simp only [List.mem_cons, List.not_mem_nil, or_false] at hc
          rcases hc with e | e | e | e | e | e <;> subst e <;> first | exact Nat.le_add_right _ _ | exact Nat.le_refl _
        exact I1.fpOk hle (I1.hok.fresh hle)
section
variable {K : PySem.W.Frag} {H : Hp} {σ : L2.St} {D : Ends} {R : It → Hp → Prop}
def IM3 (K : PySem.W.Frag) (vs : List V) (H : Hp) (R : It → Hp → Prop) : Prop := iM3 K (fun _ H Q => Q vs H) [] H R
theorem w_im3 {ta : TA} (h : ta σ H fun vs H1 => IM3 K vs H1 R) : iM3 K ta σ H R := h
theorem w_IM3 {a b d : Addr} {xs ys zs : List V} (h1 : SqL K H a xs) (h2 : SqT K H b ys) (h3 : SqL K H d zs) (q : R (Itm3 K a b d) H) : IM3 K [.ref a, .ref b, .ref d] H R := ⟨a, b, d, xs, ys, zs, rfl, h1, h2, h3, q⟩
theorem fb_zipM3 {a b d : Addr} (xs ys zs : List V) (hl : xs.length ≤ ys.length) (hl2 : xs.length ≤ zs.length) {g : TG} {tb : TS} (Pv : Nat → L2.St → Hp → Prop) (h0 : Pv 0 σ H) (hq : ∀ i σ H, i ≤ xs.length → Pv i σ H → SqL K H a xs ∧ SqT K H b ys ∧ SqL K H d zs)
    (hs : ∀ i x y z T σ H, xs[i]? = some x → ys[i]? = some y → zs[i]? = some z → Pv i σ H → H T = none → g (.ref T) σ (upd H T (.tup [x, y, z])) fun σ2 H2 => tb { D with nx := Pv (i + 1), ct := Pv (i + 1), bk := D.nx } σ2 H2) (hd : ∀ σ H, Pv xs.length σ H → D.nx σ H) : FB (Itm3 K a b d) g tb D σ H := by
  refine ⟨fun i m σ H => m = xs.length - i ∧ i ≤ xs.length ∧ Pv i σ H, ⟨xs.length, rfl, Nat.zero_le _, h0⟩, ?_⟩
  rintro i m σ H ⟨rfl, hi, p⟩
  obtain ⟨q1, q2, q3⟩ := hq i σ H hi p
  by_cases hlt : i < xs.length
  · refine .inr ⟨⟨xs, ys, zs, _, _, _, q1, q2, q3, List.getElem?_eq_getElem hlt, List.getElem?_eq_getElem (Nat.lt_of_lt_of_le hlt hl), List.getElem?_eq_getElem (Nat.lt_of_lt_of_le hlt hl2)⟩, Pv (i + 1), fun σ' H' p' => ⟨xs.length - (i + 1), by omega, rfl, hlt, p'⟩, fun v H' y => ?_⟩
    obtain ⟨T, x1, x2, x3, rfl, hT, rfl, f1, f2, f3⟩ := y
    exact hs i x1 x2 x3 T σ H (f1 _ q1) (f2 _ q2) (f3 _ q3) p hT
  · exact .inl ⟨⟨xs, ys, zs, q1, q2, q3, by omega⟩, hd σ H (by rw [show xs.length = i by omega]; exact p)⟩
end
end Ct

/-! sorted(..) of a list of any data of one shape -/
namespace Ct
open PySem PySem.Spec PyProof.Rows L2
section
variable {X : Cx} {pins : List (Addr × Obj)} {σ : L2.St} {H : Hp} {s : Shared}
theorem so_each (I : Inv X pins σ H s) : ∀ {xs : List V} {us : List Value} {ds : List PyData}, Vals xs us → DpAll X.K H xs ds →
    PySem.W.EachIs (fun u (b : V × PyData) => RelV b.1 u) us (xs.zip ds) ∧ PySem.W.EachIs (fun u (b : V × PyData) => ∃ as, Reads s.heap u b.2 as) us (xs.zip ds)
  | _, _, _, .nil, .nil => ⟨.nil, .nil⟩
  | _, _, _, .cons r t, .cons d e => ⟨.cons r (so_each I t e).1, .cons (Dp.reads I _ _ _ d r) (so_each I t e).2⟩
theorem so_vals : ∀ {us : List Value} {bs : List (V × PyData)}, PySem.W.EachIs (fun u (b : V × PyData) => RelV b.1 u) us bs → Vals (bs.map Prod.fst) us
  | _, _, .nil => .nil
  | _, _, .cons r t => .cons r (so_vals t)
theorem so_snd {K : PySem.W.Frag} : ∀ {xs : List V} {ds : List PyData}, DpAll K H xs ds → (xs.zip ds).map Prod.snd = ds
  | _, _, .nil => rfl
  | _, _, .cons _ t => by rw [List.zip_cons_cons, List.map_cons, so_snd t]
theorem so_dp {K : PySem.W.Frag} : ∀ {xs : List V} {ds : List PyData}, DpAll K H xs ds → ∀ b ∈ xs.zip ds, Dp K H b.1 b.2
  | _, _, .nil, b, hb => nomatch hb
  | _, _, .cons d t, b, hb => by
    rw [List.zip_cons_cons] at hb
    rcases List.mem_cons.mp hb with rfl | hb
    · exact d
    · exact so_dp t b hb
theorem so_all {K : PySem.W.Frag} : ∀ {bs : List (V × PyData)}, (∀ b ∈ bs, Dp K H b.1 b.2) → DpAll K H (bs.map Prod.fst) (bs.map Prod.snd)
  | [], _ => .nil
  | b :: bs, h => .cons (h b List.mem_cons_self) (so_all fun c hc => h c (List.mem_cons_of_mem _ hc))
def rSortAny (K : PySem.W.Frag) : List V → Hp → VK → Prop := fun vs H Q => ∃ (a : Addr) (xs : List V) (ds : List PyData), vs = [V.ref a] ∧ SqL K H a xs ∧ DpAll K H xs ds ∧ PySem.W.AllAlike ds ∧ PySem.W.Sortable ds ∧ (∀ d ∈ ds, d.depth ≤ 60) ∧
  ∀ (ys : List V) (es : List PyData) (p : Addr), es.Perm ds → ys.length = xs.length → DpAll K H ys es → H p = none → Q (.ref p) (upd H p (.lst ys))
theorem cr_sortAny (hu : X.A.units + 65 < cLine) : CallR X (.builtin "sorted") (rSortAny X.K) := by
  intro pins s σ H vs us Q I r h
  obtain ⟨a, xs, ds, rfl, hs, hd, al, so, dp, q⟩ := h
  obtain ⟨its, rv, hl, hz⟩ := I.list hs
  rw [Vals.ref1 r]
  obtain ⟨e1, e2⟩ := so_each I rv hd
  have zl : (xs.zip ds).length = xs.length := by rw [List.length_zip, ← dpAll_len hd, Nat.min_self]
  have zs := so_snd hd
  refine PySem.W.sorted_data (enc := Prod.snd) hl.isList e1 e2 (by rw [zs]; exact al) (by rw [zs]; exact so) (by rw [zl]; exact hz) (fun b hb => ?_) fun out ol oe => ?_
  · have := dp b.2 (by rw [← zs]; exact List.mem_map_of_mem hb)
    omega
  have pm := List.mergeSort_perm (xs.zip ds) (PySem.W.dataLe false Prod.snd)
  have pl : ((xs.zip ds).mergeSort (PySem.W.dataLe false Prod.snd)).length = xs.length := pm.length_eq.trans zl
  obtain ⟨ep, he'⟩ := PyProof.Rows.sortedAll_at s.heap its out.toArray
  refine ⟨.ref _, upd H (s.heap.objs.size + 1) (.lst (((xs.zip ds).mergeSort (PySem.W.dataLe false Prod.snd)).map Prod.fst)), I.laid (t' := s.toks) (fun _ _ => PyProof.Rows.sortedAll_old) (Nat.le_succ _) ⟨by rw [List.length_map, pl]; exact hz, out, ep, so_vals oe, he'⟩, rfl, q _ (((xs.zip ds).mergeSort (PySem.W.dataLe false Prod.snd)).map Prod.snd) _ ?_ (by rw [List.length_map, pl]) (so_all fun b hb => so_dp hd b (pm.mem_iff.mp hb)) (I.hok.fresh (Nat.le_succ _))⟩
  have := pm.map Prod.snd
  rw [zs] at this
  exact this
end
end Ct

/-! wheels go by net pushes -/
namespace Ct
open PySem PySem.Spec PyProof.Rows L2
theorem cnt_le_len (ms : List Int) (r : Int) : cnt ms r = cnt ms r := rfl
theorem mah_turn {z : Int} {ms : List Int} (hz : 1 ≤ z) (y k : Int) : mah z ms (y + k * z) = mah z ms y + k * ms.length := by
  unfold mah
  rw [Int.add_mul_emod_self_right, Int.add_mul_ediv_right _ _ (by omega), Int.add_mul]
  omega
theorem mah_mod {z : Int} {ms : List Int} (hz : 1 ≤ z) (y a : Int) : mah z ms (y % z + a) - mah z ms (y % z) = mah z ms (y + a) - mah z ms y := by
  have e := Int.emod_add_mul_ediv y z
  have h1 := mah_turn (ms := ms) hz (y % z + a) (y / z)
  have h2 := mah_turn (ms := ms) hz (y % z) (y / z)
  rw [show y % z + a + y / z * z = y + a by rw [Int.mul_comm (y / z) z]; omega] at h1
  rw [show y % z + y / z * z = y by rw [Int.mul_comm (y / z) z]; omega] at h2
  omega
theorem pt_signed {z : Int} {ms : List Int} (ok : (Part.wheel z ms).ok) (x : Int) {w : Int} (hw : Sign w) (t : Nat) : w * (pt (.wheel z ms) x w t).2 = mah z ms (x + w * t) - mah z ms x := by
  have rs : Rise z ms := ok.2.2.1
  rcases hw with rfl | rfl
  · have u := mah_up ok.1 rs x t
    simp only [pt, Int.one_mul]
    rw [if_neg (by omega)]
  · have u := mah_up ok.1 rs (x - t) t
    rw [show x - (t : Int) + t = x by omega] at u
    simp only [pt, show x + -1 * (t : Int) = x - t by omega]
    split <;> omega
def isWh : Part → Bool
  | .wheel _ _ => true
  | _ => false
/-- what net pushes f leave, with c come from ahead -/
def dueF : List Part → List Int → (Nat → Int) → Nat → Int → List Int × Int
  | .wheel z ms :: ps, x :: xs, f, k, c => ((x + f k + c) % z :: (dueF ps xs f (k + 1) (wsum z ms (x + f k + c) - wsum z ms x)).1, (dueF ps xs f (k + 1) (wsum z ms (x + f k + c) - wsum z ms x)).2)
  | _, _, _, _, c => ([], c)
theorem dueF_cons (z : Int) (ms : List Int) (ps : List Part) (x : Int) (xs : List Int) (f : Nat → Int) (k : Nat) (c : Int) : dueF (.wheel z ms :: ps) (x :: xs) f k c = ((x + f k + c) % z :: (dueF ps xs f (k + 1) (wsum z ms (x + f k + c) - wsum z ms x)).1, (dueF ps xs f (k + 1) (wsum z ms (x + f k + c) - wsum z ms x)).2) := rfl
def Wheels (ps : List Part) : Prop := ∀ p ∈ ps, isWh p = true
theorem Wheels.cons {p : Part} {ps : List Part} (h : Wheels (p :: ps)) : (∃ z ms, p = .wheel z ms) ∧ Wheels ps := by
  refine ⟨?_, fun q hq => h q (List.mem_cons_of_mem _ hq)⟩
  have := h p List.mem_cons_self
  cases p with
  | wheel z ms => exact ⟨z, ms, rfl⟩
  | click => cases this
  | rocker => cases this
  | spring k => cases this
theorem dueF_congr {f g : Nat → Int} : ∀ (ps : List Part) (xs : List Int) (k : Nat) (c : Int), (∀ j, j < ps.length → f (k + j) = g (k + j)) → dueF ps xs f k c = dueF ps xs g k c
  | [], _, _, _, _ => rfl
  | .wheel z ms :: ps, [], _, _, _ => rfl
  | .wheel z ms :: ps, x :: xs, k, c, h => by
    have h0 := h 0 (Nat.succ_pos _)
    rw [Nat.add_zero] at h0
    have e := fun c' => dueF_congr (f := f) (g := g) ps xs (k + 1) c' fun j hj => by
      have := h (j + 1) (by rw [List.length_cons]; omega)
      rw [show k + 1 + j = k + (j + 1) by omega]
      exact this
    rw [dueF_cons, dueF_cons, h0, e]
  | .click :: _, _, _, _, _ => rfl
  | .rocker :: _, _, _, _, _ => rfl
  | .spring _ :: _, _, _, _, _ => rfl
theorem dueF_len : ∀ {ps : List Part} {xs : List Int} (f : Nat → Int) (k : Nat) (c : Int), Wheels ps → StandL ps xs → (dueF ps xs f k c).1.length = ps.length
  | [], [], _, _, _, _, _ => rfl
  | p :: ps, x :: xs, f, k, c, hw, ⟨_, _, _, hs⟩ => by
    obtain ⟨⟨z, ms, rfl⟩, hw'⟩ := hw.cons
    rw [dueF_cons, List.length_cons, dueF_len f _ _ hw' hs, List.length_cons]
/-- signed pushes from the head on -/
theorem flow {w : Int} (hsw : Sign w) : ∀ {ps : List Part} {xs : List Int} (f : Nat → Int) (k : Nat) (c : Int) (t : Nat), Wheels ps → StandL ps xs →
    gen (ptw w) ps (dueF ps xs f k c).1 t = ((dueF ps xs f k (c + w * t)).1, (gen (ptw w) ps (dueF ps xs f k c).1 t).2) ∧ w * (gen (ptw w) ps (dueF ps xs f k c).1 t).2 = (dueF ps xs f k (c + w * t)).2 - (dueF ps xs f k c).2
  | [], [], f, k, c, t, _, _ => by
    refine ⟨rfl, ?_⟩
    show w * (t : Int) = c + w * t - c
    omega
  | p :: ps, x :: xs, f, k, c, t, hw, ⟨ok, h0, h1, hs⟩ => by
    obtain ⟨⟨z, ms, rfl⟩, hw'⟩ := hw.cons
    have rs : Rise z ms := ok.2.2.1
    have z1 : 1 ≤ z := ok.1
    rw [dueF_cons, dueF_cons]
    have nn := pt_nn (p := .wheel z ms) (x := (x + f k + c) % z) (w := w) ok (Int.emod_nonneg _ (by omega)) (Int.emod_lt_of_pos _ (by omega)) hsw t
    obtain ⟨t', ht'⟩ : ∃ t' : Nat, (pt (.wheel z ms) ((x + f k + c) % z) w t).2 = (t' : Int) := ⟨_, (Int.toNat_of_nonneg nn).symm⟩
    have sg := pt_signed ok ((x + f k + c) % z) hsw t
    rw [mah_mod z1, ht'] at sg
    have ih := flow hsw (ps := ps) (xs := xs) f (k + 1) (wsum z ms (x + f k + c) - wsum z ms x) t' hw' hs
    have ec : wsum z ms (x + f k + c) - wsum z ms x + w * t' = wsum z ms (x + f k + (c + w * t)) - wsum z ms x := by
      rw [wsum_mah z1 (x + f k + c) rs.2, wsum_mah z1 x rs.2, sg, show x + f k + (c + w * t) = x + f k + c + w * t by omega, wsum_mah z1 (x + f k + c + w * t) rs.2]
      omega
    rw [ec] at ih
    have ep : (pt (.wheel z ms) ((x + f k + c) % z) w t).1 = (x + f k + (c + w * t)) % z := by
      show ((x + f k + c) % z + w * t) % z = _
      rw [Int.emod_add_emod, show x + f k + c + w * t = x + f k + (c + w * t) by omega]
    have eg : gen (ptw w) (.wheel z ms :: ps) ((x + f k + c) % z :: (dueF ps xs f (k + 1) (wsum z ms (x + f k + c) - wsum z ms x)).1) t = ((x + f k + (c + w * t)) % z :: (gen (ptw w) ps (dueF ps xs f (k + 1) (wsum z ms (x + f k + c) - wsum z ms x)).1 t').1, (gen (ptw w) ps (dueF ps xs f (k + 1) (wsum z ms (x + f k + c) - wsum z ms x)).1 t').2) := by
      show ((pt (.wheel z ms) ((x + f k + c) % z) w t).1 :: (gen (ptw w) ps _ (pt (.wheel z ms) ((x + f k + c) % z) w t).2).1, (gen (ptw w) ps _ (pt (.wheel z ms) ((x + f k + c) % z) w t).2).2) = _
      rw [ep, ht']
    rw [eg]
    refine ⟨?_, ih.2⟩
    rw [ih.1]
/-- one deed more -/
def addF (f : Nat → Int) (i : Nat) (a : Int) : Nat → Int := fun j => if j = i then f j + a else f j
theorem deed_net {w : Int} (hsw : Sign w) : ∀ {ps : List Part} {xs : List Int} (f : Nat → Int) (k : Nat) (c : Int) (i t : Nat), Wheels ps → StandL ps xs → i < ps.length →
    deedL ps (dueF ps xs f k c).1 ⟨i, w, t⟩ = ((dueF ps xs (addF f (k + i) (w * t)) k c).1, (dueF ps xs (addF f (k + i) (w * t)) k c).2 - (dueF ps xs f k c).2)
  | [], _, _, _, _, _, _, _, _, hi => nomatch hi
  | p :: ps, [], _, _, _, _, _, _, hs, _ => nomatch hs
  | p :: ps, x :: xs, f, k, c, 0, t, hw, hs, _ => by
    have fl := flow hsw f k c t hw hs
    obtain ⟨⟨z, ms, rfl⟩, hw'⟩ := hw.cons
    have e : dueF (.wheel z ms :: ps) (x :: xs) f k (c + w * t) = dueF (.wheel z ms :: ps) (x :: xs) (addF f (k + 0) (w * t)) k c := by
      rw [dueF_cons, dueF_cons, show addF f (k + 0) (w * t) k = f k + w * t from if_pos rfl, show x + f k + (c + w * t) = x + (f k + w * t) + c by omega]
      rw [dueF_congr (f := f) (g := addF f (k + 0) (w * t)) ps xs (k + 1) _ fun j _ => (if_neg (by omega)).symm]
    rw [e] at fl
    show (([] : List Int) ++ (gen (ptw w) (.wheel z ms :: ps) (dueF (.wheel z ms :: ps) (x :: xs) f k c).1 t).1, w * (gen (ptw w) (.wheel z ms :: ps) (dueF (.wheel z ms :: ps) (x :: xs) f k c).1 t).2) = _
    rw [fl.2, fl.1]
    rfl
  | p :: ps, x :: xs, f, k, c, i + 1, t, hw, ⟨ok, h0, h1, hs⟩, hi => by
    obtain ⟨⟨z, ms, rfl⟩, hw'⟩ := hw.cons
    have ih := deed_net hsw (ps := ps) (xs := xs) f (k + 1) (wsum z ms (x + f k + c) - wsum z ms x) i t hw' hs (by rw [List.length_cons] at hi; omega)
    rw [dueF_cons, dueF_cons, show addF f (k + (i + 1)) (w * t) k = f k from if_neg (by omega)]
    show ((x + f k + c) % z :: (deedL ps (dueF ps xs f (k + 1) (wsum z ms (x + f k + c) - wsum z ms x)).1 ⟨i, w, t⟩).1, (deedL ps (dueF ps xs f (k + 1) (wsum z ms (x + f k + c) - wsum z ms x)).1 ⟨i, w, t⟩).2) = _
    rw [ih, show k + 1 + i = k + (i + 1) by omega]
/-- net pushes of a row -/
def netF : List Deed → Nat → Int
  | [], _ => 0
  | d :: ds, j => (if j = d.i then d.w * d.t else 0) + netF ds j
theorem row_net {ps : List Part} {xs : List Int} (hw : Wheels ps) (hs : StandL ps xs) : ∀ (ds : List Deed) (f : Nat → Int) (s : Int), (∀ d ∈ ds, d.ok ps.length) →
    rowL ps ds ((dueF ps xs f 0 0).1, s) = ((dueF ps xs (fun j => f j + netF ds j) 0 0).1, s + ((dueF ps xs (fun j => f j + netF ds j) 0 0).2 - (dueF ps xs f 0 0).2))
  | [], f, s, _ => by
    rw [show (fun j => f j + netF [] j) = f from funext fun j => Int.add_zero _]
    show ((dueF ps xs f 0 0).1, s) = _
    rw [Int.sub_self, Int.add_zero]
  | d :: ds, f, s, h => by
    have hd := h d List.mem_cons_self
    have dn := deed_net hd.2 f 0 0 d.i d.t hw hs hd.1
    show rowL ps ds ((deedL ps (dueF ps xs f 0 0).1 d).1, s + (deedL ps (dueF ps xs f 0 0).1 d).2) = _
    rw [show d = ⟨d.i, d.w, d.t⟩ from rfl, dn, row_net hw hs ds _ _ fun e he => h e (List.mem_cons_of_mem _ he)]
    have ef : (fun j => addF f (0 + d.i) (d.w * d.t) j + netF ds j) = fun j => f j + netF (⟨d.i, d.w, d.t⟩ :: ds) j := funext fun j => by
      show (if j = 0 + d.i then f j + d.w * d.t else f j) + netF ds j = f j + ((if j = d.i then d.w * d.t else 0) + netF ds j)
      rw [Nat.zero_add]
      split <;> omega
    rw [ef]
    congr 1
    omega
theorem due_zero : ∀ {ps : List Part} {xs : List Int} (k : Nat), Wheels ps → StandL ps xs → dueF ps xs (fun _ => 0) k 0 = (xs, 0)
  | [], [], _, _, _ => rfl
  | p :: ps, x :: xs, k, hw, ⟨ok, h0, h1, hs⟩ => by
    obtain ⟨⟨z, ms, rfl⟩, hw'⟩ := hw.cons
    have h1 : x < z := h1
    rw [dueF_cons, Int.add_zero, Int.add_zero, Int.sub_self, due_zero (k + 1) hw' hs, Int.emod_eq_of_lt h0 h1]
/-- a row of a train of wheels leaves what its net pushes leave -/
theorem left_net {ps : List Part} {xs : List Int} (hw : Wheels ps) (hs : StandL ps xs) {ds : List Deed} (h : ∀ d ∈ ds, d.ok ps.length) : rowL ps ds (xs, 0) = dueF ps xs (netF ds) 0 0 := by
  have r := row_net hw hs ds (fun _ => 0) 0 h
  rw [due_zero 0 hw hs] at r
  rw [r, show (fun j => 0 + netF ds j) = netF ds from funext fun j => Int.zero_add _, Int.sub_zero, Int.zero_add]
theorem netF_perm {ds es : List Deed} (h : ds.Perm es) (j : Nat) : netF ds j = netF es j := by
  induction h with
  | nil => rfl
  | cons d _ ih => show _ + _ = _ + _; rw [ih]
  | swap d e l => show _ + (_ + _) = _ + (_ + _); omega
  | trans _ _ ih1 ih2 => rw [ih1, ih2]
theorem netF_app (j : Nat) : ∀ (ds es : List Deed), netF (ds ++ es) j = netF ds j + netF es j
  | [], es => (Int.zero_add _).symm
  | d :: ds, es => by
    show _ + netF (ds ++ es) j = _ + netF ds j + netF es j
    rw [netF_app j ds es]
    omega
end Ct
namespace Ct
open PySem PySem.Spec PyProof.Rows L2
theorem gen_apB (f : Part → Int → Int → Int × Int) : ∀ (ws qs : List Part) (xs ys : List Int) (a : Int), xs.length = ws.length → gen f (ws ++ qs) (xs ++ ys) a = ((gen f ws xs a).1 ++ (gen f qs ys (gen f ws xs a).2).1, (gen f qs ys (gen f ws xs a).2).2)
  | [], qs, [], ys, a, _ => rfl
  | [], _, _ :: _, _, _, h => by simp at h
  | _ :: _, _, [], _, _, h => by simp at h
  | w :: ws, qs, x :: xs, ys, a, h => by
    have ih := gen_apB f ws qs xs ys (f w x a).2 (by simpa using h)
    show ((f w x a).1 :: (gen f (ws ++ qs) (xs ++ ys) (f w x a).2).1, (gen f (ws ++ qs) (xs ++ ys) (f w x a).2).2) = _
    rw [ih]
    rfl
theorem deed_head {ws qs : List Part} {as ys : List Int} {d : Deed} (hl : as.length = ws.length) (hi : d.i < ws.length) : ∃ ys', (deedL (ws ++ qs) (as ++ ys) d).1 = (deedL ws as d).1 ++ ys' := by
  unfold deedL
  rw [List.drop_append_of_le_length (by omega), List.drop_append_of_le_length (by omega), List.take_append_of_le_length (by omega), gen_apB _ _ _ _ _ _ (by rw [List.length_drop, List.length_drop, hl])]
  exact ⟨_, (List.append_assoc ..).symm⟩
theorem deed_tail {ws qs : List Part} {as ys : List Int} {d : Deed} (hl : as.length = ws.length) (hi : ws.length ≤ d.i) : ∃ ys', (deedL (ws ++ qs) (as ++ ys) d).1 = as ++ ys' := by
  unfold deedL
  refine ⟨ys.take (d.i - as.length) ++ (gen (ptw d.w) ((ws ++ qs).drop d.i) ((as ++ ys).drop d.i) d.t).1, ?_⟩
  show (as ++ ys).take d.i ++ _ = _
  rw [List.take_append, List.take_of_length_le (by omega), List.append_assoc]
/-- the wheels ahead go by net pushes, whatever is behind -/
theorem row_head {ws qs : List Part} {xs : List Int} (hw : Wheels ws) (hs : StandL ws xs) : ∀ (ds : List Deed) (f : Nat → Int) (ys : List Int) (s : Int), (∀ d ∈ ds, d.ok (ws ++ qs).length) →
    ∃ ys', (rowL (ws ++ qs) ds ((dueF ws xs f 0 0).1 ++ ys, s)).1 = (dueF ws xs (fun j => f j + netF ds j) 0 0).1 ++ ys'
  | [], f, ys, s, _ => ⟨ys, by rw [show (fun j => f j + netF [] j) = f from funext fun j => Int.add_zero _]; rfl⟩
  | d :: ds, f, ys, s, h => by
    have hd := h d List.mem_cons_self
    have hl := dueF_len f 0 0 hw hs
    have ef : (fun j => addF f (0 + d.i) (d.w * d.t) j + netF ds j) = fun j => f j + netF (d :: ds) j := funext fun j => by
      show (if j = 0 + d.i then f j + d.w * d.t else f j) + netF ds j = f j + ((if j = d.i then d.w * d.t else 0) + netF ds j)
      rw [Nat.zero_add]
      split <;> omega
    show ∃ ys', (rowL (ws ++ qs) ds ((deedL (ws ++ qs) ((dueF ws xs f 0 0).1 ++ ys) d).1, s + (deedL (ws ++ qs) ((dueF ws xs f 0 0).1 ++ ys) d).2)).1 = _
    rcases Nat.lt_or_ge d.i ws.length with c | c
    · obtain ⟨ys', e⟩ := deed_head (qs := qs) (ys := ys) hl c
      have dn := deed_net hd.2 f 0 0 d.i d.t hw hs c
      rw [e, show d = ⟨d.i, d.w, d.t⟩ from rfl, dn, ← ef]
      exact row_head hw hs ds _ _ _ fun e he => h e (List.mem_cons_of_mem _ he)
    · obtain ⟨ys', e⟩ := deed_tail (qs := qs) (ys := ys) hl c
      rw [e]
      obtain ⟨y2, e2⟩ := row_head (qs := qs) hw hs ds f ys' (s + (deedL (ws ++ qs) ((dueF ws xs f 0 0).1 ++ ys) d).2) fun e he => h e (List.mem_cons_of_mem _ he)
      refine ⟨y2, ?_⟩
      rw [e2, dueF_congr (f := fun j => f j + netF ds j) (g := fun j => f j + netF (d :: ds) j) ws xs 0 0 fun j hj => ?_]
      show f (0 + j) + netF ds (0 + j) = f (0 + j) + ((if 0 + j = d.i then d.w * d.t else 0) + netF ds (0 + j))
      rw [if_neg (by omega), Int.zero_add]
theorem left_head {ws qs : List Part} {xs ys : List Int} (hw : Wheels ws) (hs : StandL ws xs) {ds : List Deed} (s : Int) (h : ∀ d ∈ ds, d.ok (ws ++ qs).length) : ∃ ys', (rowL (ws ++ qs) ds (xs ++ ys, s)).1 = (dueF ws xs (netF ds) 0 0).1 ++ ys' := by
  have r := row_head (qs := qs) hw hs ds (fun _ => 0) ys s h
  rw [due_zero 0 hw hs] at r
  rw [show (fun j => 0 + netF ds j) = netF ds from funext fun j => Int.zero_add _] at r
  exact r
end Ct
namespace Ct
open PySem PySem.Spec PyProof.Rows L2
theorem often_net {ps : List Part} {xs : List Int} (hw : Wheels ps) (hs : StandL ps xs) {ds : List Deed} (h : ∀ d ∈ ds, d.ok ps.length) : ∀ n : Nat, itR ps ds n xs = dueF ps xs (fun j => n * netF ds j) 0 0
  | 0 => by
    rw [show (fun j => ((0 : Nat) : Int) * netF ds j) = fun _ => 0 from funext fun j => Int.zero_mul _, due_zero 0 hw hs]
    rfl
  | n + 1 => by
    have ih := often_net hw hs h n
    have r := row_net hw hs ds (fun j => n * netF ds j) 0 h
    rw [show (fun j => (n : Int) * netF ds j + netF ds j) = fun j => ((n + 1 : Nat) : Int) * netF ds j from funext fun j => by rw [show ((n + 1 : Nat) : Int) = (n : Int) + 1 from rfl, Int.add_mul, Int.one_mul]] at r
    show ((rowL ps ds ((itR ps ds n xs).1, 0)).1, (itR ps ds n xs).2 + (rowL ps ds ((itR ps ds n xs).1, 0)).2) = _
    rw [ih, r]
    refine Prod.ext rfl ?_
    show (dueF ps xs (fun j => n * netF ds j) 0 0).2 + (0 + ((dueF ps xs (fun j => ((n + 1 : Nat) : Int) * netF ds j) 0 0).2 - (dueF ps xs (fun j => n * netF ds j) 0 0).2)) = _
    omega
theorem often_head {ws qs : List Part} {xs ys : List Int} (hw : Wheels ws) (hs : StandL ws xs) {ds : List Deed} (h : ∀ d ∈ ds, d.ok (ws ++ qs).length) : ∀ n : Nat, ∃ ys', (itR (ws ++ qs) ds n (xs ++ ys)).1 = (dueF ws xs (fun j => n * netF ds j) 0 0).1 ++ ys'
  | 0 => by
    rw [show (fun j => ((0 : Nat) : Int) * netF ds j) = fun _ => 0 from funext fun j => Int.zero_mul _, due_zero 0 hw hs]
    exact ⟨ys, rfl⟩
  | n + 1 => by
    obtain ⟨y1, e1⟩ := often_head (ys := ys) hw hs h n
    obtain ⟨y2, e2⟩ := row_head (qs := qs) hw hs ds (fun j => n * netF ds j) y1 0 h
    refine ⟨y2, ?_⟩
    rw [show (fun j => (n : Int) * netF ds j + netF ds j) = fun j => ((n + 1 : Nat) : Int) * netF ds j from funext fun j => by rw [show ((n + 1 : Nat) : Int) = (n : Int) + 1 from rfl, Int.add_mul, Int.one_mul]] at e2
    show (rowL (ws ++ qs) ds ((itR (ws ++ qs) ds n (xs ++ ys)).1, 0)).1 = _
    rw [e1, e2]
/-! whole turns -/
def prodZ : List Part → Nat
  | [] => 1
  | p :: ps => p.places.toNat * prodZ ps
def marksN : Part → List Int
  | .wheel _ ms => ms
  | _ => []
def prodM : List Part → Nat
  | [] => 1
  | p :: ps => (marksN p).length * prodM ps
theorem gen_round {w : Int} (hsw : Sign w) : ∀ {ps : List Part} {xs : List Int} (m : Nat), Wheels ps → StandL ps xs → gen (ptw w) ps xs ((prodZ ps * m : Nat) : Int) = (xs, ((prodM ps * m : Nat) : Int))
  | [], [], m, _, _ => rfl
  | p :: ps, x :: xs, m, hw, ⟨ok, h0, h1, hs⟩ => by
    obtain ⟨⟨z, ms, rfl⟩, hw'⟩ := hw.cons
    have z1 : 1 ≤ z := ok.1
    have h1 : x < z := h1
    obtain ⟨zn, rfl⟩ : ∃ zn : Nat, z = zn := ⟨z.toNat, by omega⟩
    have et : ((prodZ (.wheel (zn : Int) ms :: ps) * m : Nat) : Int) = ((prodZ ps * m : Nat) : Int) * zn := by
      show ((((zn : Int).toNat * prodZ ps) * m : Nat) : Int) = _
      rw [Int.toNat_natCast, Nat.mul_assoc, Nat.mul_comm]
      exact Int.natCast_mul _ _
    have e1 : (pt (.wheel (zn : Int) ms) x w ((prodZ (.wheel (zn : Int) ms :: ps) * m : Nat) : Int)).1 = x := by
      show (x + w * ((prodZ (.wheel (zn : Int) ms :: ps) * m : Nat) : Int)) % zn = x
      rw [et, ← Int.mul_assoc, Int.add_mul_emod_self_right, Int.emod_eq_of_lt h0 h1]
    have e2 : (pt (.wheel (zn : Int) ms) x w ((prodZ (.wheel (zn : Int) ms :: ps) * m : Nat) : Int)).2 = ((prodZ ps * (ms.length * m) : Nat) : Int) := by
      have nn := pt_nn (p := .wheel (zn : Int) ms) ok h0 h1 hsw (prodZ (.wheel (zn : Int) ms :: ps) * m)
      have sg := pt_signed ok x hsw (prodZ (.wheel (zn : Int) ms :: ps) * m)
      rw [et, ← Int.mul_assoc, mah_turn z1] at sg
      rw [et] at nn
      rw [et]
      have em : ((prodZ ps * (ms.length * m) : Nat) : Int) = ((prodZ ps * m : Nat) : Int) * ms.length := by
        rw [Nat.mul_comm ms.length m, ← Nat.mul_assoc]
        exact Int.natCast_mul _ _
      rw [em]
      generalize ((prodZ ps * m : Nat) : Int) = A at *
      rcases hsw with rfl | rfl
      · rw [Int.one_mul, Int.one_mul] at sg
        rw [sg]
        omega
      · rw [Int.mul_assoc] at sg
        generalize A * (ms.length : Int) = B at *
        omega
    show ((ptw w (.wheel (zn : Int) ms) x _).1 :: (gen (ptw w) ps xs (ptw w (.wheel (zn : Int) ms) x _).2).1, (gen (ptw w) ps xs (ptw w (.wheel (zn : Int) ms) x _).2).2) = _
    rw [show ptw w (.wheel (zn : Int) ms) x ((prodZ (.wheel (zn : Int) ms :: ps) * m : Nat) : Int) = (x, ((prodZ ps * (ms.length * m) : Nat) : Int)) from Prod.ext e1 e2, gen_round hsw (ms.length * m) hw' hs]
    show (x :: xs, ((prodM ps * (ms.length * m) : Nat) : Int)) = (x :: xs, (((ms.length * prodM ps) * m : Nat) : Int))
    rw [← Nat.mul_assoc, Nat.mul_comm (prodM ps) ms.length]
theorem round_net {ps : List Part} {xs : List Int} {i : Nat} {w : Int} (hsw : Sign w) (hw : Wheels ps) (hs : StandL ps xs) : rowL ps [⟨i, w, prodZ (ps.drop i)⟩] (xs, 0) = (xs, w * (prodM (ps.drop i) : Int)) := by
  have g := gen_round hsw 1 (ps := ps.drop i) (xs := xs.drop i) (fun p hp => hw p (List.mem_of_mem_drop hp)) (stand_drop i hs)
  rw [Nat.mul_one, Nat.mul_one] at g
  show ((deedL ps xs ⟨i, w, prodZ (ps.drop i)⟩).1, 0 + (deedL ps xs ⟨i, w, prodZ (ps.drop i)⟩).2) = _
  unfold deedL
  rw [g]
  show (xs.take i ++ xs.drop i, 0 + w * (prodM (ps.drop i) : Int)) = _
  rw [List.take_append_drop, Int.zero_add]
end Ct
namespace Ct
open PySem PySem.Spec PyProof.Rows L2
theorem w_eqSame {K : PySem.W.Frag} {H : Hp} {Q : VK} {x y : V} (d : PyData) {n : Nat} (hx : Dp K H x d) (hy : Dp K H y d) (h : d.canLay0 = true ∧ d.depth ≤ n) (e : n ≤ 64) (q : Q (.bl true) H) : rEqD K x y H Q :=
  ⟨d, d, hx, hy, shaped_of h e, shaped_of h e, by rw [SeqAt.eqv_refl d h.1]; exact q⟩
end Ct
namespace Ct
open PySem PySem.Spec PyProof.Rows L2
theorem prodZ_app (p : Part) : ∀ l : List Part, prodZ (l ++ [p]) = prodZ l * p.places.toNat
  | [] => by show p.places.toNat * 1 = 1 * p.places.toNat; omega
  | a :: l => by
    show a.places.toNat * prodZ (l ++ [p]) = a.places.toNat * prodZ l * p.places.toNat
    rw [prodZ_app p l, Nat.mul_assoc]
theorem prodM_app (p : Part) : ∀ l : List Part, prodM (l ++ [p]) = prodM l * (marksN p).length
  | [] => by show (marksN p).length * 1 = 1 * (marksN p).length; omega
  | a :: l => by
    show (marksN a).length * prodM (l ++ [p]) = (marksN a).length * prodM l * (marksN p).length
    rw [prodM_app p l, Nat.mul_assoc]
theorem prodZ_small : ∀ {l : List Part}, (∀ p ∈ l, p.places ≤ 10 ^ 40) → prodZ l < 2 ^ (134 * l.length + 1)
  | [], _ => by show 1 < 2 ^ (134 * 0 + 1); decide
  | p :: l, h => by
    have ih := prodZ_small (l := l) fun q hq => h q (List.mem_cons_of_mem _ hq)
    have hp := h p List.mem_cons_self
    have hp2 : p.places.toNat ≤ 2 ^ 134 := Nat.le_trans (show p.places.toNat ≤ 10 ^ 40 by omega) (by decide)
    rw [List.length_cons, show 134 * (l.length + 1) + 1 = 134 + (134 * l.length + 1) by omega, Nat.pow_add]
    show p.places.toNat * prodZ l < _
    exact Nat.lt_of_le_of_lt (Nat.mul_le_mul_right _ hp2) (Nat.mul_lt_mul_of_pos_left ih (by decide))
theorem prodM_small : ∀ {l : List Part}, (∀ p ∈ l, (marksN p).length ≤ 6) → prodM l < 2 ^ (3 * l.length + 1)
  | [], _ => by show 1 < 2 ^ (3 * 0 + 1); decide
  | p :: l, h => by
    have ih := prodM_small (l := l) fun q hq => h q (List.mem_cons_of_mem _ hq)
    have hp := h p List.mem_cons_self
    rw [List.length_cons, show 3 * (l.length + 1) + 1 = 3 + (3 * l.length + 1) by omega, Nat.pow_add]
    show (marksN p).length * prodM l < _
    exact Nat.lt_of_le_of_lt (Nat.mul_le_mul_right _ (show (marksN p).length ≤ 2 ^ 3 by omega)) (Nat.mul_lt_mul_of_pos_left ih (by decide))
end Ct
namespace Ct
open PySem PySem.Spec PyProof.Rows L2
theorem stands_prodZ : ∀ {ps : List Part}, (∀ p ∈ ps, p.ok) → stands ps = (prodZ ps : Int)
  | [], _ => rfl
  | p :: ps, h => by
    have ih := stands_prodZ (ps := ps) fun q hq => h q (List.mem_cons_of_mem _ hq)
    have hp := (h p List.mem_cons_self).pos.1
    show p.places * stands ps = ((p.places.toNat * prodZ ps : Nat) : Int)
    rw [ih, Int.natCast_mul, Int.toNat_of_nonneg (by omega)]
theorem netF_abs {B : Nat} (j : Nat) : ∀ {ds : List Deed}, (∀ d ∈ ds, Sign d.w ∧ d.t ≤ B) → (netF ds j).natAbs ≤ ds.length * B
  | [], _ => Nat.zero_le _
  | d :: ds, h => by
    have ih := netF_abs j (ds := ds) fun e he => h e (List.mem_cons_of_mem _ he)
    obtain ⟨hw, ht⟩ := h d List.mem_cons_self
    show ((if j = d.i then d.w * d.t else 0) + netF ds j).natAbs ≤ _
    have e1 : ((if j = d.i then d.w * d.t else 0) : Int).natAbs ≤ B := by
      split
      · rcases hw with hw | hw <;> rw [hw] <;> omega
      · exact Nat.zero_le _
    rw [List.length_cons, Nat.add_mul, Nat.one_mul]
    omega
end Ct
namespace Ct
open PySem PySem.Spec PyProof.Rows L2
theorem stand_lt : ∀ {ps : List Part} {xs : List Int}, StandL ps xs → ∀ x ∈ xs, x.natAbs < 2 ^ 200
  | [], [], _, _, h => nomatch h
  | p :: ps, x :: xs, ⟨ok, h0, h1, hs⟩, y, hy => by
    rcases List.mem_cons.mp hy with rfl | hy
    · have := ok.pos.2
      omega
    · exact stand_lt hs y hy
theorem dueF_more : ∀ {ps : List Part} {xs : List Int}, StandL ps xs → ∀ (ys : List Int) (f : Nat → Int) (k : Nat) (c : Int), dueF ps (xs ++ ys) f k c = dueF ps xs f k c
  | [], [], _, ys, f, k, c => by cases ys <;> rfl
  | .wheel z ms :: ps, x :: xs, ⟨_, _, _, hs⟩, ys, f, k, c => by
    rw [List.cons_append, dueF_cons, dueF_cons, dueF_more hs]
  | .click :: _, _ :: _, _, _, _, _, _ => rfl
  | .rocker :: _, _ :: _, _, _, _, _, _ => rfl
  | .spring _ :: _, _ :: _, _, _, _, _, _ => rfl
end Ct
namespace Ct
open PySem PySem.Spec PyProof.Rows L2
/-- a row with the same net pushes -/
def RowOf (K : PySem.W.Frag) (H : Hp) (o : Addr) (n : Nat) (ds : List Deed) : Prop := ∃ (uv : List V) (es : List Deed), H o = some (.lst uv) ∧ DpAll K H uv (es.map Deed.data) ∧ es.length ≤ 20 ∧ (∀ d ∈ es, d.ok n ∧ d.t < 2 ^ 150) ∧ ∀ j, netF es j = netF ds j
theorem RowOf.same {K : PySem.W.Frag} {H H' : Hp} {o : Addr} {n : Nat} {ds : List Deed} (h : RowOf K H o n ds) (s : Same H H') : RowOf K H' o n ds :=
  let ⟨uv, es, h1, h2, h3⟩ := h; ⟨uv, es, s _ _ h1, dpAll_same s h2, h3⟩
theorem netF_one (d : Deed) (j : Nat) : netF [d] j = if j = d.i then d.w * d.t else 0 := Int.add_zero _
theorem netF_ins (es : List Deed) (d : Deed) (i j : Nat) : netF (es.take i ++ [d] ++ es.drop i) j = netF es j + netF [d] j := by
  have e := netF_app j (es.take i) (es.drop i)
  rw [List.take_append_drop] at e
  rw [netF_app, netF_app]
  omega
theorem netF_out {n : Nat} {j : Nat} (hj : n ≤ j) : ∀ {ds : List Deed}, (∀ d ∈ ds, d.i < n) → netF ds j = 0
  | [], _ => rfl
  | d :: ds, h => by
    show (if j = d.i then d.w * d.t else 0) + netF ds j = 0
    rw [netF_out hj fun e he => h e (List.mem_cons_of_mem _ he), if_neg (by have := h d List.mem_cons_self; omega)]
    rfl
theorem netF_two {i : Nat} {w : Int} (hw : Sign w) {f t : Nat} (h : f ≤ t) (j : Nat) : netF [⟨i, w, f⟩, ⟨i, w, t - f⟩] j = netF [⟨i, w, t⟩] j := by
  show (if j = i then w * (f : Int) else 0) + ((if j = i then w * ((t - f : Nat) : Int) else 0) + 0) = (if j = i then w * (t : Int) else 0) + 0
  split
  · rcases hw with rfl | rfl <;> omega
  · omega
theorem netF_back {i : Nat} {w : Int} {t : Nat} (j : Nat) : netF [⟨i, w, t⟩] j + netF [⟨i, 0 - w, t⟩] j = 0 := by
  show ((if j = i then w * (t : Int) else 0) + 0) + ((if j = i then (0 - w) * (t : Int) else 0) + 0) = 0
  split
  · rw [Int.sub_mul, Int.zero_mul]
    omega
  · rfl
theorem dp_ins {K : PySem.W.Frag} {H : Hp} {uv : List V} {es : List Deed} {y : V} {d : Deed} (i : Nat) (h : DpAll K H uv (es.map Deed.data)) (hy : Dp K H y d.data) : DpAll K H (uv.take i ++ [y] ++ uv.drop i) ((es.take i ++ [d] ++ es.drop i).map Deed.data) := by
  rw [List.map_append, List.map_append, List.map_take, List.map_drop]
  exact dpAll_app (dpAll_app (dpAll_take i h) (.cons hy .nil)) (dpAll_drop i h)
theorem mem_insL {α : Type} {l : List α} {i : Nat} {x y : α} (h : y ∈ l.take i ++ [x] ++ l.drop i) : y = x ∨ y ∈ l := by
  rcases List.mem_append.mp h with h | h
  · rcases List.mem_append.mp h with h | h
    · exact .inr (List.mem_of_mem_take h)
    · exact .inl (List.mem_singleton.mp h)
  · exact .inr (List.mem_of_mem_drop h)
theorem len_insL {α : Type} (l : List α) (i : Nat) (x : α) : (l.take i ++ [x] ++ l.drop i).length = l.length + 1 := by
  rw [List.length_append, List.length_append, List.length_take, List.length_drop]
  simp only [List.length_cons, List.length_nil]
  omega
theorem deed_dpN {K : PySem.W.Frag} {H : Hp} {g : Addr} {i t : Nat} {w : Int} (h : H g = some (.tup [.int (i : Int), .int w, .int (t : Int)])) : Dp K H (.ref g) (Deed.data ⟨i, w, t⟩) := .tup (.of h) (.cons (.int _) (.cons (.int _) (.cons (.int _) .nil)))
theorem deeds_alike (ds : List Deed) : PySem.W.AllAlike (ds.map Deed.data) := by
  intro d hd e he
  obtain ⟨a, _, rfl⟩ := List.mem_map.mp hd
  obtain ⟨b, _, rfl⟩ := List.mem_map.mp he
  rfl
theorem deeds_sort (ds : List Deed) : PySem.W.Sortable (ds.map Deed.data) := .inl fun d hd => by
  obtain ⟨a, _, rfl⟩ := List.mem_map.mp hd
  exact ⟨_, _, rfl⟩
theorem deeds_of_perm {es : List PyData} {ds : List Deed} (h : es.Perm (ds.map Deed.data)) : ∃ fs : List Deed, es = fs.map Deed.data ∧ fs.Perm ds := by
  have inj : ∀ (es : List PyData), (∀ e ∈ es, ∃ d : Deed, e = d.data) → ∃ fs : List Deed, es = fs.map Deed.data := by
    intro es
    induction es with
    | nil => exact fun _ => ⟨[], rfl⟩
    | cons e es ih =>
      intro hh
      obtain ⟨d, rfl⟩ := hh e List.mem_cons_self
      obtain ⟨fs, rfl⟩ := ih fun x hx => hh x (List.mem_cons_of_mem _ hx)
      exact ⟨d :: fs, rfl⟩
  obtain ⟨fs, rfl⟩ := inj es fun e he => by
    obtain ⟨d, _, rfl⟩ := List.mem_map.mp (h.mem_iff.mp he)
    exact ⟨d, rfl⟩
  let un : PyData → Deed := fun
    | .tuple [.int i, .int w, .int t] => ⟨i.toNat, w, t.toNat⟩
    | _ => ⟨0, 0, 0⟩
  have ud : ∀ d : Deed, un d.data = d := fun d => by
    show (⟨((d.i : Nat) : Int).toNat, d.w, ((d.t : Nat) : Int).toNat⟩ : Deed) = d
    rw [Int.toNat_natCast, Int.toNat_natCast]
  have um : ∀ l : List Deed, (l.map Deed.data).map un = l := fun l => by
    rw [List.map_map]
    exact (List.map_congr_left fun d _ => ud d).trans (List.map_id l)
  have := h.map un
  rw [um, um] at this
  exact ⟨fs, rfl, this⟩
end Ct
namespace Ct
open PySem PySem.Spec PyProof.Rows L2
def Deed.back (d : Deed) : Deed := ⟨d.i, 0 - d.w, d.t⟩
theorem sign_back {w : Int} (h : Sign w) : Sign (0 - w) := by
  rcases h with rfl | rfl
  · exact .inr rfl
  · exact .inl rfl
theorem netF_backs (j : Nat) : ∀ es : List Deed, netF (es.map Deed.back) j = - netF es j
  | [] => rfl
  | d :: es => by
    show (if j = d.i then (0 - d.w) * (d.t : Int) else 0) + netF (es.map Deed.back) j = -((if j = d.i then d.w * d.t else 0) + netF es j)
    rw [netF_backs j es]
    split
    · rw [Int.sub_mul, Int.zero_mul]
      omega
    · omega
section
variable {ws qs : List Part} {xs ys : List Int} {ds es : List Deed}
theorem none_behind (hs2 : StandL qs ys) (l : ws.length = (ws ++ qs).length) : qs = [] ∧ ys = [] := by
  rw [List.length_append] at l
  have q0 : qs = [] := List.eq_nil_of_length_eq_zero (by omega)
  subst q0
  refine ⟨rfl, ?_⟩
  cases ys with
  | nil => rfl
  | cons _ _ => exact hs2.elim
theorem left_take (hw : Wheels ws) (hs : StandL ws xs) (h : ∀ d ∈ es, d.ok (ws ++ qs).length) (e : ∀ j, netF es j = netF ds j) : (rowL (ws ++ qs) es (xs ++ ys, 0)).1.take ws.length = (dueF ws xs (netF ds) 0 0).1 := by
  obtain ⟨ys', ey⟩ := left_head (qs := qs) (ys := ys) hw hs 0 h
  rw [ey, show netF es = netF ds from funext e, List.take_append_of_le_length (by rw [dueF_len _ _ _ hw hs]; omega), List.take_of_length_le (by rw [dueF_len _ _ _ hw hs]; omega)]
theorem left_sum (hw : Wheels ws) (hs : StandL ws xs) (hs2 : StandL qs ys) (h : ∀ d ∈ es, d.ok (ws ++ qs).length) (e : ∀ j, netF es j = netF ds j) (l : ws.length = (ws ++ qs).length) : (rowL (ws ++ qs) es (xs ++ ys, 0)).2 = (dueF ws xs (netF ds) 0 0).2 := by
  obtain ⟨rfl, rfl⟩ := none_behind hs2 l
  rw [List.append_nil] at h
  rw [List.append_nil, List.append_nil, left_net hw hs h, show netF es = netF ds from funext e]
theorem back_take (hw : Wheels ws) (hs : StandL ws xs) (hd : ∀ d ∈ ds, d.ok (ws ++ qs).length) (h : ∀ d ∈ es, d.ok (ws ++ qs).length) (e : ∀ j, netF es j = - netF ds j) : (rowL (ws ++ qs) es ((rowL (ws ++ qs) ds (xs ++ ys, 0)).1, 0)).1.take ws.length = xs := by
  obtain ⟨y1, e1⟩ := left_head (qs := qs) (ys := ys) hw hs 0 hd
  obtain ⟨y2, e2⟩ := row_head (qs := qs) hw hs es (netF ds) y1 0 h
  rw [show (fun j => netF ds j + netF es j) = fun _ => 0 from funext fun j => by rw [e j]; omega, due_zero 0 hw hs] at e2
  rw [e1, e2, List.take_append_of_le_length (by rw [hs.len]; omega), List.take_of_length_le (by rw [hs.len]; omega)]
theorem back_sum (hw : Wheels ws) (hs : StandL ws xs) (hs2 : StandL qs ys) (hd : ∀ d ∈ ds, d.ok (ws ++ qs).length) (h : ∀ d ∈ es, d.ok (ws ++ qs).length) (e : ∀ j, netF es j = - netF ds j) (l : ws.length = (ws ++ qs).length) : (rowL (ws ++ qs) es ((rowL (ws ++ qs) ds (xs ++ ys, 0)).1, 0)).2 = 0 - (dueF ws xs (netF ds) 0 0).2 := by
  obtain ⟨rfl, rfl⟩ := none_behind hs2 l
  rw [List.append_nil] at h hd
  rw [List.append_nil, List.append_nil, left_net hw hs hd]
  have r := row_net hw hs es (netF ds) 0 h
  rw [show (fun j => netF ds j + netF es j) = fun _ => 0 from funext fun j => by rw [e j]; omega, due_zero 0 hw hs] at r
  rw [r]
  omega
end
end Ct
namespace Ct
open PySem PySem.Spec PyProof.Rows L2
theorem w_slAt {K : PySem.W.Frag} {H : Hp} {Q : VK} {g : Addr} {xs : List Int} {n : Nat} (h : SqT K H g (xs.map V.int)) (hn : n ≤ xs.length) (q : ∀ p H', Same H H' → SqT K H' p ((xs.take n).map V.int) → Q (.ref p) H') : rSlA K (.ref g) none (some (n : Int)) H Q := by
  have cut : cutV (xs.map V.int) none (some (n : Int)) = (xs.take n).map V.int := by
    rw [cutV_map, HT.sIx_none, HT.sIx_nat, List.drop_zero, Nat.min_eq_left (by omega), Nat.sub_zero]
  refine ⟨g, _, rfl, h, fun whole => ?_, fun _ p np => q p _ (same_upd np) (.of (by rw [upd_same, cut]))⟩
  refine q g H (Same.refl H) ?_
  rw [← cut, show cutV (xs.map V.int) none (some (n : Int)) = xs.map V.int by unfold cutV; rw [whole.1, whole.2, List.drop_zero, Nat.sub_zero, List.take_length]]
  exact h
end Ct
namespace Ct
open PySem PySem.Spec PyProof.Rows L2
theorem standL_split : ∀ {ws qs : List Part} {zs : List Int}, StandL (ws ++ qs) zs → ∃ xs ys, zs = xs ++ ys ∧ StandL ws xs ∧ StandL qs ys
  | [], qs, zs, h => ⟨[], zs, rfl, trivial, h⟩
  | w :: ws, qs, z :: zs, ⟨ok, h0, h1, h⟩ => by
    obtain ⟨xs, ys, rfl, hx, hy⟩ := standL_split h
    exact ⟨z :: xs, ys, rfl, ⟨ok, h0, h1, hx⟩, hy⟩
  | _ :: _, _, [], h => h.elim
theorem eqvAll_len : ∀ {as bs : List PyData}, PyData.eqvAll as bs = true → as.length = bs.length
  | [], [], _ => rfl
  | a :: as, b :: bs, h => by
    rw [List.length_cons, List.length_cons, eqvAll_len (as := as) (bs := bs) (by
      rw [PyData.eqvAll, Bool.and_eq_true] at h
      exact h.2)]
  | [], _ :: _, h => by simp [PyData.eqvAll] at h
  | _ :: _, [], h => by simp [PyData.eqvAll] at h
theorem eqv_behind {ws qs : List Part} (h : PyData.eqv (.list ((ws ++ qs).map Part.data)) (.list (ws.map Part.data)) = true) : qs = [] := by
  rw [PyData.eqv] at h
  have := eqvAll_len h
  rw [List.length_map, List.length_map, List.length_append] at this
  exact List.eq_nil_of_length_eq_zero (by omega)
end Ct

local macro_rules | `(tactic| walk_at "ct") => `(tactic| repeat (first
  | with_reducible refine Ct.w_seq ?_ | with_reducible refine Ct.w_gen ?_ | with_reducible refine Ct.w_asg ?_ | with_reducible refine Ct.w_ret ?_ | with_reducible refine Ct.w_ifS ?_ | with_reducible refine Ct.w_drop ?_ | with_reducible refine Ct.w_next ?_
  | with_reducible refine Ct.w_op ?_ | with_reducible refine Ct.w_c ?_ | with_reducible refine Ct.w_chain ?_ | with_reducible refine Ct.w_un ?_ | with_reducible refine Ct.w_test ?_ | with_reducible refine Ct.w_B ?_ | with_reducible refine Ct.w_and ?_ | with_reducible refine Ct.w_or ?_ | with_reducible refine Ct.w_not ?_ | with_reducible refine Ct.w_if ?_
  | with_reducible refine Ct.w_andV ?_ | with_reducible refine Ct.w_orV ?_ | with_reducible refine Ct.w_notV ?_
  | with_reducible refine Ct.w_nil ?_ | with_reducible refine Ct.w_cons ?_ | with_reducible refine Ct.w_cb ?_ | with_reducible refine Ct.w_call ?_ | with_reducible refine Ct.w_tup ?_ | with_reducible refine Ct.w_lst ?_ | with_reducible refine Ct.w_bm ?_
  | with_reducible refine Ct.w_for ?_ | with_reducible refine Ct.w_rng1 ?_ | with_reducible refine Ct.w_rng2 ?_ | with_reducible refine Ct.w_ilist ?_ | with_reducible refine Ct.w_itup ?_ | with_reducible refine Ct.w_im ?_ | with_reducible refine Ct.w_enum ?_ | with_reducible refine Ct.w_irev ?_ | with_reducible refine Ct.w_dcT ?_ | with_reducible refine Ct.w_bm0 ?_ | with_reducible refine Ct.w_dnewT ?_ | with_reducible refine Ct.w_dnotin ?_ | with_reducible refine Ct.w_dget ?_ | with_reducible refine Ct.w_dput ?_ | with_reducible refine Ct.w_lc ?_ | with_reducible refine Ct.w_lc2 ?_ | with_reducible refine Ct.w_star ?_ | with_reducible refine Ct.w_revL ?_ | with_reducible refine Ct.w_yes ?_
  | with_reducible refine Ct.w_gcons ?_ | with_reducible refine Ct.w_gnil ?_ | with_reducible refine Ct.w_gsub ?_ | with_reducible refine Ct.w_sl ?_ | with_reducible refine Ct.w_nopart ?_ | with_reducible refine Ct.w_part ?_
  | with_reducible refine Ct.w_rI0 ?_ | with_reducible refine Ct.w_rU ?_ | with_reducible refine Ct.w_rEqI ?_ | with_reducible refine Ct.w_rNeI ?_ | with_reducible refine Ct.w_ipI ?_ | with_reducible refine Ct.w_bl ?_ | with_reducible refine Ct.w_in ?_ | with_reducible refine Ct.w_break ?_ | with_reducible refine Ct.w_cont ?_ | with_reducible refine Ct.w_nT ?_ | with_reducible refine Ct.w_nF ?_ | with_reducible refine L2.iteT ?_ | with_reducible refine L2.iteF ?_
  | ((with_reducible refine Ct.w_rEqS (b := true) ?ceq ?_); (case ceq => decide +kernel)) | ((with_reducible refine Ct.w_rEqS (b := false) ?ceq ?_); (case ceq => decide +kernel))
  | with_reducible refine Ct.w_var rfl ?_
  | ((with_reducible refine' Ct.w_ixT ?cas ?cix ?_); (case cas => assumption); (case cix => first | exact Ct.at0 | exact Ct.at1 | exact Ct.at2 | exact rfl))
  | ((with_reducible refine' Ct.w_name ?cnm ?_); (case cnm => simp only [L2.wipe, List.map, List.set_cons_zero, List.set_cons_succ]; exact rfl)) ))
local macro_rules | `(tactic| walk_at "cq") => `(tactic| repeat (first
  | with_reducible refine Ct.w_gen ?_ | with_reducible refine Ct.w_asg ?_ | with_reducible refine Ct.w_ret ?_ | with_reducible refine Ct.w_ifS ?_ | with_reducible refine Ct.w_drop ?_ | with_reducible refine Ct.w_next ?_
  | with_reducible refine Ct.w_op ?_ | with_reducible refine Ct.w_c ?_ | with_reducible refine Ct.w_chain ?_ | with_reducible refine Ct.w_un ?_ | with_reducible refine Ct.w_test ?_ | with_reducible refine Ct.w_B ?_ | with_reducible refine Ct.w_and ?_ | with_reducible refine Ct.w_or ?_ | with_reducible refine Ct.w_not ?_ | with_reducible refine Ct.w_if ?_
  | with_reducible refine Ct.w_andV ?_ | with_reducible refine Ct.w_orV ?_ | with_reducible refine Ct.w_notV ?_
  | with_reducible refine Ct.w_nil ?_ | with_reducible refine Ct.w_cons ?_ | with_reducible refine Ct.w_cb ?_ | with_reducible refine Ct.w_call ?_ | with_reducible refine Ct.w_tup ?_ | with_reducible refine Ct.w_lst ?_ | with_reducible refine Ct.w_bm ?_
  | with_reducible refine Ct.w_for ?_ | with_reducible refine Ct.w_rng1 ?_ | with_reducible refine Ct.w_rng2 ?_ | with_reducible refine Ct.w_ilist ?_ | with_reducible refine Ct.w_itup ?_ | with_reducible refine Ct.w_im ?_ | with_reducible refine Ct.w_enum ?_ | with_reducible refine Ct.w_irev ?_ | with_reducible refine Ct.w_dcT ?_ | with_reducible refine Ct.w_bm0 ?_ | with_reducible refine Ct.w_dnewT ?_ | with_reducible refine Ct.w_dnotin ?_ | with_reducible refine Ct.w_dget ?_ | with_reducible refine Ct.w_dput ?_ | with_reducible refine Ct.w_lc ?_ | with_reducible refine Ct.w_lc2 ?_ | with_reducible refine Ct.w_star ?_ | with_reducible refine Ct.w_revL ?_ | with_reducible refine Ct.w_yes ?_
  | with_reducible refine Ct.w_gcons ?_ | with_reducible refine Ct.w_gnil ?_ | with_reducible refine Ct.w_gsub ?_ | with_reducible refine Ct.w_sl ?_ | with_reducible refine Ct.w_nopart ?_ | with_reducible refine Ct.w_part ?_
  | with_reducible refine Ct.w_rI0 ?_ | with_reducible refine Ct.w_rU ?_ | with_reducible refine Ct.w_rEqI ?_ | with_reducible refine Ct.w_rNeI ?_ | with_reducible refine Ct.w_ipI ?_ | with_reducible refine Ct.w_bl ?_ | with_reducible refine Ct.w_in ?_ | with_reducible refine Ct.w_break ?_ | with_reducible refine Ct.w_cont ?_ | with_reducible refine Ct.w_nT ?_ | with_reducible refine Ct.w_nF ?_ | with_reducible refine L2.iteT ?_ | with_reducible refine L2.iteF ?_
  | ((with_reducible refine Ct.w_rEqS (b := true) ?ceq ?_); (case ceq => decide +kernel)) | ((with_reducible refine Ct.w_rEqS (b := false) ?ceq ?_); (case ceq => decide +kernel))
  | with_reducible refine Ct.w_var rfl ?_
  | ((with_reducible refine' Ct.w_ixT ?cas ?cix ?_); (case cas => assumption); (case cix => first | exact Ct.at0 | exact Ct.at1 | exact Ct.at2 | exact rfl))
  | ((with_reducible refine' Ct.w_name ?cnm ?_); (case cnm => simp only [L2.wipe, List.map, List.set_cons_zero, List.set_cons_succ]; exact rfl)) ))

namespace My
open PySem PySem.Spec PyProof.Rows L2 Ct
def topS (i : Nat) : Stmt := PySem.Challenge.pw_clicktrain_k09_whole_wheels_go_by_net_pu.main.body.getD i (.Pass ⟨0, 0, 0, 0⟩)
section
variable {P : Program} {w : World} {K : PySem.W.Frag} {mg : Str → Option Value} {base : Heap}
abbrev S_is_whole : Stmt := topS 7
theorem sc_is_whole : FnScope ["thing"] ["thing"] (defScope S_is_whole) := ⟨rfl, rfl, rfl, by decide +kernel, rfl, by decide +kernel, by decide +kernel⟩
def sp_is_whole (K : PySem.W.Frag) : Sp := fun vs H Q _ => ∃ (v : V) (d : PyData), vs = [v] ∧ Dp K H v d ∧ Q (.bl (isW d)) H
theorem ok_is_whole {f : Addr} {fd : FuncData} (F : Fun K "is_whole" "is_whole" S_is_whole f fd) (m_isinstance : mg "isinstance" = none) (m_int : mg "int" = none) (m_bool : mg "bool" = none) :
    FnOk P w K mg base CX0 1 f fd ["thing"] (sp_is_whole K) := by
  refine F.ok sc_is_whole (fun vs H Q E h => ?_) (fun cdv A outer s H vs Q E hr h => ?_)
  ·
    obtain ⟨v, d, rfl, _⟩ := h
    rfl
  ·
    obtain ⟨v, d, rfl, hd, q⟩ := h
    refine ⟨_, (pss_one (ps_ret (pe_and (pe_callB (r := rIsi K) call_isi (by rfl) m_isinstance (by decide +kernel) (pa_cons (pv 0) (pa_cons (pe_bltn (v := .ty "int") (u := .type "int") (by rfl) m_int (by decide +kernel) rfl) pa_nil))) (pe_one (pe_not (pe_callB (r := rIsi K) call_isi (by rfl) m_isinstance (by decide +kernel) (pa_cons (pv 0) (pa_cons (pe_bltn (v := .ty "bool") (u := .type "bool") (by rfl) m_bool (by decide +kernel) rfl) pa_nil)))))))), ?_⟩
    refine w_st (σ' := [some v]) rfl ?_
    walk_at "ct"
    cases hd with
    | non =>
      refine w_isi (b := false) (.base .non) (kit_ty (by decide +kernel)) ?_
      walk_at "ct"
      exact q
    | bl b =>
      refine w_isi (b := true) (.base (.bl b)) (kit_ty (by decide +kernel)) ?_
      walk_at "ct"
      refine w_isi (b := true) (.base (.bl b)) (kit_ty (by decide +kernel)) ?_
      walk_at "ct"
      exact q
    | int i =>
      refine w_isi (b := true) (.base (.int i)) (kit_ty (by decide +kernel)) ?_
      walk_at "ct"
      refine w_isi (b := false) (.base (.int i)) (kit_ty (by decide +kernel)) ?_
      walk_at "ct"
      exact q
    | str x =>
      refine w_isi (b := false) (.base (.str x)) (kit_ty (by decide +kernel)) ?_
      walk_at "ct"
      exact q
    | lst hs ht =>
      refine w_isi (b := false) (tyx_L hs) (kit_ty (by decide +kernel)) ?_
      walk_at "ct"
      exact q
    | tup hs ht =>
      refine w_isi (b := false) (tyx_T hs) (kit_ty (by decide +kernel)) ?_
      walk_at "ct"
      exact q
abbrev S_are_marks : Stmt := topS 8
theorem sc_are_marks : FnScope ["thing", "teeth", "last", "mark"] ["thing", "teeth"] (defScope S_are_marks) := ⟨rfl, rfl, rfl, by decide +kernel, rfl, by decide +kernel, by decide +kernel⟩
def sp_are_marks (K : PySem.W.Frag) : Sp := fun vs H Q _ => ∃ (v : V) (d : PyData) (z : Int), vs = [v, .int z] ∧ Dp K H v d ∧ Q (.bl (areM d z)) H
theorem ok_are_marks {f : Addr} {fd : FuncData} {f_is_whole : Addr} {fd_is_whole : FuncData} (F : Fun K "are_marks" "are_marks" S_are_marks f fd)
    (F_is_whole : Fun K "is_whole" "is_whole" S_is_whole f_is_whole fd_is_whole) (b_is_whole : Binds K fd_is_whole ["thing"] []) (g_is_whole : mg "is_whole" = some (.ref f_is_whole)) (G_is_whole : FnOk P w K mg base CX0 1 f_is_whole fd_is_whole ["thing"] (sp_is_whole K)) (m_isinstance : mg "isinstance" = none) (m_tuple : mg "tuple" = none) :
    FnOk P w K mg base CX0 2 f fd ["thing", "teeth"] (sp_are_marks K) := by
  refine F.ok sc_are_marks (fun vs H Q E h => ?_) (fun cdv A outer s H vs Q E hr h => ?_)
  ·
    obtain ⟨v, d, z, rfl, _⟩ := h
    rfl
  ·
    obtain ⟨v, d, z, rfl, hd, q⟩ := h
    refine ⟨_, (pss_cons (ps_if (pt_not (pt_val (pe_callB (r := rIsi K) call_isi (by rfl) m_isinstance (by decide +kernel) (pa_cons (pv 0) (pa_cons (pe_bltn (v := .ty "tuple") (u := .type "tuple") (by rfl) m_tuple (by decide +kernel) rfl) pa_nil))))) (pss_one (ps_ret pe_bl)) pss_nil)
      (pss_cons (ps_set (i := 2) sc_are_marks.nd rfl (.inl rfl) (pe_un un_neg pe_int))
      (pss_cons (ps_for PassesOwn.never rfl (pi_tup (pv 0)) (pg_name (i := 3) sc_are_marks.nd rfl (.inl rfl))
      (pss_cons (ps_if (PW.pt (pw_or (pt_not (pt_val (pe_call G_is_whole (hr.mono (by decide)) (by rfl) g_is_whole F_is_whole.kp b_is_whole .nil pass0 (pa_cons (pv 3) pa_nil)))) (pw_or (pt_cmpR op_le (pv 3) (pv 2) (nomark _)) (pw_or1 (pt_cmpR op_ge (pv 3) (pv 1) (nomark _)))))) (pss_one (ps_ret pe_bl)) pss_nil)
      (pss_one (ps_set (i := 2) sc_are_marks.nd rfl (.inl rfl) (pv 3)))))
      (pss_one (ps_ret pe_bl))))), ?_⟩
    refine w_st (σ' := [some v, some (.int z), none, none]) rfl ?_
    walk_at "ct"
    cases hd with
    | non =>
      refine w_isi (b := false) (.base .non) (kit_ty (by decide +kernel)) ?_
      walk_at "ct"
      exact q
    | bl b =>
      refine w_isi (b := false) (.base (.bl b)) (kit_ty (by decide +kernel)) ?_
      walk_at "ct"
      exact q
    | int i =>
      refine w_isi (b := false) (.base (.int i)) (kit_ty (by decide +kernel)) ?_
      walk_at "ct"
      exact q
    | str x =>
      refine w_isi (b := false) (.base (.str x)) (kit_ty (by decide +kernel)) ?_
      walk_at "ct"
      exact q
    | lst hs ht =>
      refine w_isi (b := false) (tyx_L hs) (kit_ty (by decide +kernel)) ?_
      walk_at "ct"
      exact q
    | @tup a xs ds hs ht =>
      refine w_isi (b := true) (tyx_T hs) (kit_ty (by decide +kernel)) ?_
      walk_at "ct"
      refine w_IT hs ?_
      have hxl := dpAll_len ht
      refine fb_tup xs (fun n σ H' => ∃ (last : Int) (y : Option V), σ = [some (.ref a), some (.int z), some (.int last), y] ∧ H' = H ∧ risesD (-1) z ds = risesD last z (ds.drop n)) ⟨-1, none, rfl, rfl, rfl⟩ ?_ ?_ ?_
      · rintro n σ H' hn ⟨last, y, rfl, rfl, _⟩
        exact hs
      · rintro n x σ H' hx ⟨last, y, rfl, rfl, hr⟩
        have hn : n < xs.length := (List.getElem?_eq_some_iff.mp hx).1
        obtain ⟨e, he⟩ : ∃ e, ds[n]? = some e := ⟨_, List.getElem?_eq_getElem (by omega)⟩
        obtain ⟨x', hx', hde⟩ := dpAll_get ht he
        cases Option.some.inj (hx.symm.trans hx')
        have hdr : ds.drop n = e :: ds.drop (n + 1) := by
          rw [List.drop_eq_getElem_cons (by omega)]
          congr 1
          rw [List.getElem?_eq_getElem (by omega)] at he
          exact Option.some.inj he
        rw [hdr] at hr
        have hq : risesD last z (e :: ds.drop (n + 1)) = false → Q (.bl false) H' := fun z => by
          rw [z] at hr
          rw [show areM (.tuple ds) _ = risesD (-1) _ ds from rfl, hr] at q
          exact q
        walk_at "ct"
        refine ⟨x, e, rfl, hde, ?_⟩
        cases hde with
        | int m =>
          refine w_bl (w_nT ?_)
          walk_at "ct"
          refine w_ite (fun e1 => ?_) (fun e1 => ?_)
          · walk_at "ct"
            exact hq (if_pos (.inl e1))
          · walk_at "ct"
            refine w_ite (fun e2 => ?_) (fun e2 => ?_)
            · walk_at "ct"
              exact hq (if_pos (.inr e2))
            · walk_at "ct"
              exact ⟨m, _, rfl, rfl, hr.trans (if_neg (by omega))⟩
        | non =>
          refine w_bl (w_nF ?_)
          walk_at "ct"
          exact hq rfl
        | bl b =>
          refine w_bl (w_nF ?_)
          walk_at "ct"
          exact hq rfl
        | str s =>
          refine w_bl (w_nF ?_)
          walk_at "ct"
          exact hq rfl
        | lst h1 h2 =>
          refine w_bl (w_nF ?_)
          walk_at "ct"
          exact hq rfl
        | tup h1 h2 =>
          refine w_bl (w_nF ?_)
          walk_at "ct"
          exact hq rfl
      · rintro σ H' ⟨last, y, rfl, rfl, hr⟩
        walk_at "ct"
        rw [show areM (.tuple ds) z = risesD (-1) z ds from rfl, hr, List.drop_of_length_le (by omega)] at q
        exact q
abbrev S_is_part : Stmt := topS 9
theorem sc_is_part : FnScope ["thing"] ["thing"] (defScope S_is_part) := ⟨rfl, rfl, rfl, by decide +kernel, rfl, by decide +kernel, by decide +kernel⟩
def sp_is_part (K : PySem.W.Frag) : Sp := fun vs H Q _ => ∃ (v : V) (d : PyData) (n : Nat), vs = [v] ∧ Dp K H v d ∧ d.canLay0 = true ∧ d.depth ≤ n ∧ n ≤ 60 ∧ ∀ H', Same H H' → Q (.bl (isP d)) H'
theorem ok_is_part {f : Addr} {fd : FuncData} {f_is_whole : Addr} {fd_is_whole : FuncData} {f_are_marks : Addr} {fd_are_marks : FuncData} (F : Fun K "is_part" "is_part" S_is_part f fd)
    (F_is_whole : Fun K "is_whole" "is_whole" S_is_whole f_is_whole fd_is_whole) (b_is_whole : Binds K fd_is_whole ["thing"] []) (g_is_whole : mg "is_whole" = some (.ref f_is_whole)) (G_is_whole : FnOk P w K mg base CX0 1 f_is_whole fd_is_whole ["thing"] (sp_is_whole K))
    (F_are_marks : Fun K "are_marks" "are_marks" S_are_marks f_are_marks fd_are_marks) (b_are_marks : Binds K fd_are_marks ["thing", "teeth"] []) (g_are_marks : mg "are_marks" = some (.ref f_are_marks)) (G_are_marks : FnOk P w K mg base CX0 2 f_are_marks fd_are_marks ["thing", "teeth"] (sp_are_marks K)) (m_isinstance : mg "isinstance" = none) (m_tuple : mg "tuple" = none) (m_len : mg "len" = none) :
    FnOk P w K mg base CX0 3 f fd ["thing"] (sp_is_part K) := by
  refine F.ok sc_is_part (fun vs H Q E h => ?_) (fun cdv A outer s H vs Q E hr h => ?_)
  ·
    obtain ⟨v, d, n, rfl, _⟩ := h
    rfl
  ·
    obtain ⟨v, d, n, rfl, hd, lay, dep, n60, q⟩ := h
    refine ⟨_, (pss_cons (ps_if (PW.pt (pw_or (pt_not (pt_val (pe_callB (r := rIsi K) call_isi (by rfl) m_isinstance (by decide +kernel) (pa_cons (pv 0) (pa_cons (pe_bltn (v := .ty "tuple") (u := .type "tuple") (by rfl) m_tuple (by decide +kernel) rfl) pa_nil))))) (pw_or1 (pt_cmpR op_eq (pe_callB call_len_seq (by rfl) m_len (by decide +kernel) (pa_cons (pv 0) pa_nil)) pe_int (nomark _))))) (pss_one (ps_ret pe_bl)) pss_nil)
      (pss_cons (ps_if (pt_cmpR (r := rEqD K) (op_eqD hr.units) (pe_ix (r := rIxT K) ix_tup (pv 0) pe_int (fun _ _ => rfl)) pe_str (nomark _)) (pss_one (ps_ret (pe_and (pe_cmpR op_eq (pe_callB call_len_seq (by rfl) m_len (by decide +kernel) (pa_cons (pv 0) pa_nil)) pe_int (nomark _)) (pe_and (pe_call G_is_whole (hr.mono (by decide)) (by rfl) g_is_whole F_is_whole.kp b_is_whole .nil pass0 (pa_cons (pe_ix (r := rIxT K) ix_tup (pv 0) pe_int (fun _ _ => rfl)) pa_nil)) (pe_and (pe_cmpR op_ge (pe_ix (r := rIxT K) ix_tup (pv 0) pe_int (fun _ _ => rfl)) pe_int (nomark _)) (pe_one (pe_call G_are_marks (hr.mono (by decide)) (by rfl) g_are_marks F_are_marks.kp b_are_marks .nil pass0 (pa_cons (pe_ix (r := rIxT K) ix_tup (pv 0) pe_int (fun _ _ => rfl)) (pa_cons (pe_ix (r := rIxT K) ix_tup (pv 0) pe_int (fun _ _ => rfl)) pa_nil))))))))) pss_nil)
      (pss_cons (ps_if (pt_cmpR (r := rEqD K) (op_eqD hr.units) (pe_ix (r := rIxT K) ix_tup (pv 0) pe_int (fun _ _ => rfl)) pe_str (nomark _)) (pss_one (ps_ret (pe_and (pe_cmpR op_eq (pe_callB call_len_seq (by rfl) m_len (by decide +kernel) (pa_cons (pv 0) pa_nil)) pe_int (nomark _)) (pe_and (pe_call G_is_whole (hr.mono (by decide)) (by rfl) g_is_whole F_is_whole.kp b_is_whole .nil pass0 (pa_cons (pe_ix (r := rIxT K) ix_tup (pv 0) pe_int (fun _ _ => rfl)) pa_nil)) (pe_one (pe_cmpR op_ge (pe_ix (r := rIxT K) ix_tup (pv 0) pe_int (fun _ _ => rfl)) pe_int (nomark _))))))) pss_nil)
      (pss_one (ps_ret (pe_or (pe_cmpR (r := rEqD K) (op_eqD hr.units) (pv 0) (pe_tup (pa_cons pe_str pa_nil)) (nomark _)) (pe_one (pe_cmpR (r := rEqD K) (op_eqD hr.units) (pv 0) (pe_tup (pa_cons pe_str pa_nil)) (nomark _))))))))), ?_⟩
    refine w_st (σ' := [some v]) rfl ?_
    walk_at "ct"
    cases hd with
    | non =>
      refine w_isi (b := false) (.base .non) (kit_ty (by decide +kernel)) ?_
      walk_at "ct"
      exact q H (Same.refl H)
    | bl b =>
      refine w_isi (b := false) (.base (.bl b)) (kit_ty (by decide +kernel)) ?_
      walk_at "ct"
      exact q H (Same.refl H)
    | int i =>
      refine w_isi (b := false) (.base (.int i)) (kit_ty (by decide +kernel)) ?_
      walk_at "ct"
      exact q H (Same.refl H)
    | str x =>
      refine w_isi (b := false) (.base (.str x)) (kit_ty (by decide +kernel)) ?_
      walk_at "ct"
      exact q H (Same.refl H)
    | lst hs ht =>
      refine w_isi (b := false) (tyx_L hs) (kit_ty (by decide +kernel)) ?_
      walk_at "ct"
      exact q H (Same.refl H)
    | @tup a xs ds hs ht =>
      refine w_isi (b := true) (tyx_T hs) (kit_ty (by decide +kernel)) ?_
      walk_at "ct"
      refine ⟨a, xs, rfl, .inr hs, ?_⟩
      walk_at "ct"
      cases ht with
      | nil =>
        refine w_ite (fun e => ?_) (fun e => absurd rfl e)
        walk_at "ct"
        exact q H (Same.refl H)
      | @cons v0 vs0 d0 ds0 h0 t0 =>
        have hw : SeqAt.shaped (.str "wheel") = true := by decide +kernel
        have hsp : SeqAt.shaped (.str "spring") = true := by decide +kernel
        rw [PyData.canLay0, PyData.canLayAll0, Bool.and_eq_true] at lay
        rw [PyData.depth, PyData.depthAll] at dep
        have sh0 : SeqAt.shaped d0 = true := shaped_of (n := n) ⟨lay.1, by omega⟩ (by omega)
        have hwhole : ∀ H', Same H H' → Dp K H' (.ref a) (.tuple (d0 :: ds0)) := fun H' s => .tup (Same.tup s hs) (.cons (dp_same s h0) (dpAll_same s t0))
        have shw : SeqAt.shaped (.tuple (d0 :: ds0)) = true := shaped_of (n := n) ⟨by rw [PyData.canLay0, PyData.canLayAll0, lay.1, lay.2]; rfl, by rw [PyData.depth, PyData.depthAll]; omega⟩ (by omega)
        refine w_ite (fun e => absurd e (by rw [List.length_cons]; omega)) (fun e => ?_)
        walk_at "ct"
        refine ⟨d0, .str "wheel", h0, .str _, sh0, hw, ?_⟩
        walk_at "ct"
        by_cases e1 : PyData.eqv d0 (.str "wheel") = true
        · rw [if_pos e1]
          have hq : ∀ b : Bool, b = isP (.tuple (d0 :: ds0)) → Q (.bl b) H := fun b hb => by
            rw [hb]
            exact q H (Same.refl H)
          have hP : isP (.tuple (d0 :: ds0)) = wheelT ds0 := by
            simp only [isP, if_pos e1]
          walk_at "ct"
          refine ⟨a, _, rfl, .inr hs, ?_⟩
          walk_at "ct"
          have l0 := dpAll_len t0
          cases t0 with
          | nil =>
            refine w_ite (fun e => absurd e (by show ¬ ((1 : Nat) : Int) = 3; decide)) (fun e => ?_)
            exact hq _ hP.symm
          | @cons v1 vs1 d1 ds1 h1 t1 =>
            cases t1 with
            | nil =>
              refine w_ite (fun e => absurd e (by show ¬ ((2 : Nat) : Int) = 3; decide)) (fun e => ?_)
              exact hq _ (by rw [hP]; cases d1 <;> rfl)
            | @cons v2 vs2 d2 ds2 h2 t2 =>
              cases t2 with
              | nil =>
                refine w_ite (fun e => ?_) (fun e => absurd rfl e)
                walk_at "ct"
                refine ⟨v1, d1, rfl, h1, ?_⟩
                cases h1 with
                | int z =>
                  refine w_bl ?_
                  refine iteT ?_
                  walk_at "ct"
                  refine w_ite (fun e => ?_) (fun e => ?_)
                  · walk_at "ct"
                    refine ⟨v2, d2, z, rfl, h2, ?_⟩
                    exact hq _ (by rw [hP]; show _ = (decide (1 ≤ z) && areM d2 z); rw [decide_eq_true e]; rfl)
                  · exact hq _ (by rw [hP]; show _ = (decide (1 ≤ z) && areM d2 z); rw [decide_eq_false e]; rfl)
                | non => exact w_bl (iteF (hq _ hP.symm))
                | bl b => exact w_bl (iteF (hq _ hP.symm))
                | str s => exact w_bl (iteF (hq _ hP.symm))
                | lst g1 g2 => exact w_bl (iteF (hq _ hP.symm))
                | tup g1 g2 => exact w_bl (iteF (hq _ hP.symm))
              | @cons v3 vs3 d3 ds3 h3 t3 =>
                refine w_ite (fun e => absurd e (by rw [List.length_cons, List.length_cons, List.length_cons, List.length_cons]; omega)) (fun e => ?_)
                exact hq _ (by rw [hP]; cases d1 <;> rfl)
        · rw [if_neg e1]
          walk_at "ct"
          refine ⟨d0, .str "spring", h0, .str _, sh0, hsp, ?_⟩
          walk_at "ct"
          by_cases e2 : PyData.eqv d0 (.str "spring") = true
          · rw [if_pos e2]
            have hq : ∀ b : Bool, b = isP (.tuple (d0 :: ds0)) → Q (.bl b) H := fun b hb => by
              rw [hb]
              exact q H (Same.refl H)
            have hP : isP (.tuple (d0 :: ds0)) = springT ds0 := by
              simp only [isP, if_neg e1, if_pos e2]
            walk_at "ct"
            refine ⟨a, _, rfl, .inr hs, ?_⟩
            walk_at "ct"
            cases t0 with
            | nil =>
              refine w_ite (fun e => absurd e (by show ¬ ((1 : Nat) : Int) = 2; decide)) (fun e => ?_)
              exact hq _ hP.symm
            | @cons v1 vs1 d1 ds1 h1 t1 =>
              cases t1 with
              | nil =>
                refine w_ite (fun e => ?_) (fun e => absurd rfl e)
                walk_at "ct"
                refine ⟨v1, d1, rfl, h1, ?_⟩
                cases h1 with
                | int z =>
                  refine w_bl ?_
                  refine iteT ?_
                  walk_at "ct"
                  exact hq _ hP.symm
                | non => exact w_bl (iteF (hq _ hP.symm))
                | bl b => exact w_bl (iteF (hq _ hP.symm))
                | str s => exact w_bl (iteF (hq _ hP.symm))
                | lst g1 g2 => exact w_bl (iteF (hq _ hP.symm))
                | tup g1 g2 => exact w_bl (iteF (hq _ hP.symm))
              | @cons v2 vs2 d2 ds2 h2 t2 =>
                refine w_ite (fun e => absurd e (by rw [List.length_cons, List.length_cons, List.length_cons]; omega)) (fun e => ?_)
                exact hq _ (by rw [hP]; cases d1 <;> rfl)
          · rw [if_neg e2]
            have hP : isP (.tuple (d0 :: ds0)) = (PyData.eqv (.tuple (d0 :: ds0)) (.tuple [.str "click"]) || PyData.eqv (.tuple (d0 :: ds0)) (.tuple [.str "rocker"])) := by
              simp only [isP, if_neg e1, if_neg e2]
            rw [hP] at q
            walk_at "ct"
            refine ⟨len2 rfl, fun p np => ?_⟩
            have s1 : Same H (upd H p (.tup [.str "click"])) := same_upd np
            refine ⟨.tuple (d0 :: ds0), .tuple [.str "click"], hwhole _ s1, .tup (.of upd_same) (.cons (.str _) .nil), shw, by decide +kernel, ?_⟩
            walk_at "ct"
            by_cases e3 : PyData.eqv (.tuple (d0 :: ds0)) (.tuple [.str "click"]) = true
            · rw [if_pos e3]
              rw [e3] at q
              exact q _ s1
            · rw [if_neg e3]
              rw [Bool.not_eq_true] at e3
              rw [e3] at q
              walk_at "ct"
              refine ⟨len2 rfl, fun p2 np2 => ?_⟩
              have s2 := same_new (o := .tup [.str "rocker"]) s1 (s1.free np2)
              refine ⟨.tuple (d0 :: ds0), .tuple [.str "rocker"], hwhole _ s2, .tup (.of upd_same) (.cons (.str _) .nil), shw, by decide +kernel, ?_⟩
              exact q _ s2
abbrev S_check_train : Stmt := topS 10
theorem sc_check_train : FnScope ["train", "part"] ["train"] (defScope S_check_train) := ⟨rfl, rfl, rfl, by decide +kernel, rfl, by decide +kernel, by decide +kernel⟩
def sp_check_train (K : PySem.W.Frag) : Sp := fun vs H Q _ => ∃ (a : Addr) (ps : List Part), vs = [.ref a] ∧ TrainAt K H a ps ∧ (∀ p ∈ ps, p.ok) ∧ 1 ≤ ps.length ∧ ∀ H', Same H H' → Q .non H'
theorem ok_check_train {f : Addr} {fd : FuncData} {f_is_part : Addr} {fd_is_part : FuncData} (F : Fun K "check_train" "check_train" S_check_train f fd)
    (F_is_part : Fun K "is_part" "is_part" S_is_part f_is_part fd_is_part) (b_is_part : Binds K fd_is_part ["thing"] []) (g_is_part : mg "is_part" = some (.ref f_is_part)) (G_is_part : FnOk P w K mg base CX0 3 f_is_part fd_is_part ["thing"] (sp_is_part K)) (m_isinstance : mg "isinstance" = none) (m_list : mg "list" = none) (m_len : mg "len" = none) :
    FnOk P w K mg base CX0 4 f fd ["train"] (sp_check_train K) := by
  refine F.ok sc_check_train (fun vs H Q E h => ?_) (fun cdv A outer s H vs Q E hr h => ?_)
  ·
    obtain ⟨a, ps, rfl, _⟩ := h
    rfl
  ·
    obtain ⟨a, ps, rfl, ⟨vs, hv, hd⟩, hok, hps, q⟩ := h
    refine ⟨_, (pss_cons (ps_if (PW.pt (pw_or (pt_not (pt_val (pe_callB (r := rIsi K) call_isi (by rfl) m_isinstance (by decide +kernel) (pa_cons (pv 0) (pa_cons (pe_bltn (v := .ty "list") (u := .type "list") (by rfl) m_list (by decide +kernel) rfl) pa_nil))))) (pw_or1 (pt_cmpR op_eq (pe_callB call_len_seq (by rfl) m_len (by decide +kernel) (pa_cons (pv 0) pa_nil)) pe_int (nomark _))))) (pss_one ps_never) pss_nil)
      (pss_one (ps_for PassesOwn.never rfl (pi_list (pv 0)) (pg_name (i := 1) sc_check_train.nd rfl (.inl rfl))
      (pss_one (ps_if (pt_not (pt_val (pe_call G_is_part (hr.mono (by decide)) (by rfl) g_is_part F_is_part.kp b_is_part .nil pass0 (pa_cons (pv 1) pa_nil)))) (pss_one ps_never) pss_nil))))), ?_⟩
    refine w_st (σ' := [some (.ref a), none]) rfl ?_
    have hvl : vs.length = ps.length := by rw [dpAll_len hd, List.length_map]
    walk_at "ct"
    refine w_isi (b := true) (tyx_L hv) (kit_ty (by decide +kernel)) ?_
    walk_at "ct"
    refine ⟨a, vs, rfl, .inl hv, ?_⟩
    walk_at "ct"
    refine w_ite (fun e => absurd e (by omega)) (fun e => ?_)
    walk_at "ct"
    refine w_IL hv ?_
    refine fb_list vs (fun n σ H' => ∃ y, σ = [some (.ref a), y] ∧ Same H H') ⟨none, rfl, Same.refl H⟩ ?_ ?_ ?_
    · rintro n σ H' hn ⟨y, rfl, sm⟩
      exact sm.seq hv
    · rintro n v σ H' hx ⟨y, rfl, sm⟩
      have hn : n < vs.length := (List.getElem?_eq_some_iff.mp hx).1
      obtain ⟨p, hp⟩ : ∃ p, ps[n]? = some p := ⟨_, List.getElem?_eq_getElem (by omega)⟩
      obtain ⟨v', hv1, hd1⟩ := TrainAt.at (a := a) hd hp
      cases Option.some.inj (hx.symm.trans hv1)
      walk_at "ct"
      refine ⟨v, p.data, 2, rfl, dp_same sm hd1, (lay_part p).1, (lay_part p).2, by decide, fun H1 s1 => ?_⟩
      rw [isP_of (hok p (List.mem_of_getElem? hp))]
      walk_at "ct"
      exact ⟨_, rfl, sm.trans s1⟩
    · rintro σ H' ⟨y, rfl, sm⟩
      exact q H' sm
abbrev S_place_count : Stmt := topS 11
theorem sc_place_count : FnScope ["part"] ["part"] (defScope S_place_count) := ⟨rfl, rfl, rfl, by decide +kernel, rfl, by decide +kernel, by decide +kernel⟩
def sp_place_count (K : PySem.W.Frag) : Sp := fun vs H Q _ => ∃ (v : V) (p : Part), vs = [v] ∧ Dp K H v p.data ∧ Q (.int p.places) H
theorem ok_place_count {f : Addr} {fd : FuncData} (F : Fun K "place_count" "place_count" S_place_count f fd) :
    FnOk P w K mg base CX0 1 f fd ["part"] (sp_place_count K) := by
  refine F.ok sc_place_count (fun vs H Q E h => ?_) (fun cdv A outer s H vs Q E hr h => ?_)
  ·
    obtain ⟨v, p, rfl, _⟩ := h
    rfl
  ·
    obtain ⟨v, p, rfl, hp, q⟩ := h
    refine ⟨_, (pss_cons (ps_if (pt_cmpR op_eq (pe_ix (r := rIxT K) ix_tup (pv 0) pe_int (fun _ _ => rfl)) pe_str (nomark _)) (pss_one (ps_ret pe_int)) pss_nil)
      (pss_cons (ps_if (pt_cmpR op_eq (pe_ix (r := rIxT K) ix_tup (pv 0) pe_int (fun _ _ => rfl)) pe_str (nomark _)) (pss_one (ps_ret pe_int)) pss_nil)
      (pss_one (ps_ret (pe_ix (r := rIxT K) ix_tup (pv 0) pe_int (fun _ _ => rfl)))))), ?_⟩
    refine w_st (σ' := [some v]) rfl ?_
    cases p with
    | wheel z ms =>
      obtain ⟨a, b, rfl, ha, hb⟩ := wheel_inv hp
      walk_at "ct"
      exact q
    | click =>
      obtain ⟨a, rfl, ha⟩ := click_inv hp
      walk_at "ct"
      exact q
    | rocker =>
      obtain ⟨a, rfl, ha⟩ := rocker_inv hp
      walk_at "ct"
      exact q
    | spring k =>
      obtain ⟨a, rfl, ha⟩ := spring_inv hp
      walk_at "ct"
      exact q
abbrev S_is_stand : Stmt := topS 12
theorem sc_is_stand : FnScope ["train", "thing", "part", "place"] ["train", "thing"] (defScope S_is_stand) := ⟨rfl, rfl, rfl, by decide +kernel, rfl, by decide +kernel, by decide +kernel⟩
def sp_is_stand (K : PySem.W.Frag) : Sp := fun vs H Q _ => ∃ (a t : Addr) (ps : List Part) (xs : List Int), vs = [.ref a, .ref t] ∧ TrainAt K H a ps ∧ SqT K H t (xs.map V.int) ∧ StandOk ps xs ∧ ∀ H', Same H H' → Q (.bl true) H'
theorem ok_is_stand {f : Addr} {fd : FuncData} {f_place_count : Addr} {fd_place_count : FuncData} {f_is_whole : Addr} {fd_is_whole : FuncData} (F : Fun K "is_stand" "is_stand" S_is_stand f fd)
    (F_place_count : Fun K "place_count" "place_count" S_place_count f_place_count fd_place_count) (b_place_count : Binds K fd_place_count ["part"] []) (g_place_count : mg "place_count" = some (.ref f_place_count)) (G_place_count : FnOk P w K mg base CX0 1 f_place_count fd_place_count ["part"] (sp_place_count K))
    (F_is_whole : Fun K "is_whole" "is_whole" S_is_whole f_is_whole fd_is_whole) (b_is_whole : Binds K fd_is_whole ["thing"] []) (g_is_whole : mg "is_whole" = some (.ref f_is_whole)) (G_is_whole : FnOk P w K mg base CX0 1 f_is_whole fd_is_whole ["thing"] (sp_is_whole K)) (m_zip : mg "zip" = none) (m_isinstance : mg "isinstance" = none) (m_tuple : mg "tuple" = none) (m_len : mg "len" = none) :
    FnOk P w K mg base CX0 2 f fd ["train", "thing"] (sp_is_stand K) := by
  refine F.ok sc_is_stand (fun vs H Q E h => ?_) (fun cdv A outer s H vs Q E hr h => ?_)
  ·
    obtain ⟨a, t, ps, xs, rfl, _⟩ := h
    rfl
  ·
    obtain ⟨a, t, ps, xs, rfl, ⟨vs, hv, hd⟩, hS, hso, q⟩ := h
    have s1 := Same.refl H
    refine ⟨_, (pss_cons (ps_if (PW.pt (pw_or (pt_not (pt_val (pe_callB (r := rIsi K) call_isi (by rfl) m_isinstance (by decide +kernel) (pa_cons (pv 1) (pa_cons (pe_bltn (v := .ty "tuple") (u := .type "tuple") (by rfl) m_tuple (by decide +kernel) rfl) pa_nil))))) (pw_or1 (pt_cmpR op_ne (pe_callB call_len_seq (by rfl) m_len (by decide +kernel) (pa_cons (pv 1) pa_nil)) (pe_callB call_len_seq (by rfl) m_len (by decide +kernel) (pa_cons (pv 0) pa_nil)) (nomark _))))) (pss_one (ps_ret pe_bl)) pss_nil)
      (pss_cons (ps_for PassesOwn.never rfl (pi_zipM (by rfl) m_zip (pa_cons (pv 0) (pa_cons (pv 1) pa_nil))) (pg_tup rfl (pgs_cons (pg_name (i := 2) sc_is_stand.nd rfl (.inl rfl)) (pgs_cons (pg_name (i := 3) sc_is_stand.nd rfl (.inl rfl)) pgs_nil)))
      (pss_one (ps_if (PW.pt (pw_or (pt_not (pt_val (pe_call G_is_whole (hr.mono (by decide)) (by rfl) g_is_whole F_is_whole.kp b_is_whole .nil pass0 (pa_cons (pv 3) pa_nil)))) (pw_or (pt_cmpR op_lt (pv 3) pe_int (nomark _)) (pw_or1 (pt_cmpR op_ge (pv 3) (pe_call G_place_count (hr.mono (by decide)) (by rfl) g_place_count F_place_count.kp b_place_count .nil pass0 (pa_cons (pv 2) pa_nil)) (nomark _)))))) (pss_one (ps_ret pe_bl)) pss_nil)))
      (pss_one (ps_ret pe_bl)))), ?_⟩
    refine w_st (σ' := [some (.ref a), some (.ref t), none, none]) rfl ?_
    have hvl : vs.length = ps.length := by rw [dpAll_len hd, List.length_map]
    have hxl := hso.1
    walk_at "ct"
    refine w_isi (b := true) (tyx_T (Same.tup s1 hS)) (kit_ty (by decide +kernel)) ?_
    walk_at "ct"
    refine ⟨t, _, rfl, .inr (Same.tup s1 hS), ?_⟩
    walk_at "ct"
    refine ⟨a, _, rfl, .inl (s1.seq hv), ?_⟩
    walk_at "ct"
    refine w_iteN (fun e => absurd (by rw [List.length_map, hxl, hvl]) e) (fun e => ?_)
    walk_at "ct"
    refine w_IM (s1.seq hv) (Same.tup s1 hS) ?_
    refine fb_zipM vs (xs.map V.int) (by rw [List.length_map]; omega) (fun n σ H' => ∃ y z, σ = [some (.ref a), some (.ref t), y, z] ∧ Same H H') ⟨none, none, rfl, s1⟩ ?_ ?_ ?_
    · rintro n σ H' hn ⟨y, z, rfl, sm⟩
      exact ⟨sm.seq hv, Same.tup sm hS⟩
    · rintro n v u T σ H' hx hu ⟨y, z, rfl, sm⟩ hT
      have hn : n < vs.length := (List.getElem?_eq_some_iff.mp hx).1
      obtain ⟨p, hp⟩ : ∃ p, ps[n]? = some p := ⟨_, List.getElem?_eq_getElem (by omega)⟩
      obtain ⟨v', hv1, hd1⟩ := TrainAt.at (a := a) hd hp
      cases Option.some.inj (hx.symm.trans hv1)
      obtain ⟨x, hxx⟩ : ∃ x, xs[n]? = some x := ⟨_, List.getElem?_eq_getElem (by omega)⟩
      rw [List.getElem?_map, hxx] at hu
      cases Option.some.inj hu
      have hb := hso.2 n p x hp hxx
      have s2 : Same H (upd H' T (.tup [v, .int x])) := same_new sm (sm.free hT)
      refine w_gtup (.of upd_same) rfl ?_
      walk_at "ct"
      refine ⟨.int x, .int x, rfl, .int x, ?_⟩
      walk_at "ct"
      refine w_nT ?_
      walk_at "ct"
      refine w_ite (fun e => absurd e (by omega)) (fun e => ?_)
      walk_at "ct"
      refine ⟨v, p, rfl, dp_same s2 hd1, ?_⟩
      walk_at "ct"
      refine w_ite (fun e => absurd e (by omega)) (fun e => ?_)
      walk_at "ct"
      exact ⟨_, _, rfl, s2⟩
    · rintro σ H' ⟨y, z, rfl, sm⟩
      walk_at "ct"
      exact q H' sm
abbrev S_check_stand : Stmt := topS 13
theorem sc_check_stand : FnScope ["train", "stand"] ["train", "stand"] (defScope S_check_stand) := ⟨rfl, rfl, rfl, by decide +kernel, rfl, by decide +kernel, by decide +kernel⟩
def sp_check_stand (K : PySem.W.Frag) : Sp := fun vs H Q _ => ∃ (a t : Addr) (ps : List Part) (xs : List Int), vs = [.ref a, .ref t] ∧ TrainAt K H a ps ∧ (∀ p ∈ ps, p.ok) ∧ 1 ≤ ps.length ∧ SqT K H t (xs.map V.int) ∧ StandOk ps xs ∧ ∀ H', Same H H' → Q .non H'
theorem ok_check_stand {f : Addr} {fd : FuncData} {f_is_stand : Addr} {fd_is_stand : FuncData} {f_check_train : Addr} {fd_check_train : FuncData} (F : Fun K "check_stand" "check_stand" S_check_stand f fd)
    (F_is_stand : Fun K "is_stand" "is_stand" S_is_stand f_is_stand fd_is_stand) (b_is_stand : Binds K fd_is_stand ["train", "thing"] []) (g_is_stand : mg "is_stand" = some (.ref f_is_stand)) (G_is_stand : FnOk P w K mg base CX0 2 f_is_stand fd_is_stand ["train", "thing"] (sp_is_stand K))
    (F_check_train : Fun K "check_train" "check_train" S_check_train f_check_train fd_check_train) (b_check_train : Binds K fd_check_train ["train"] []) (g_check_train : mg "check_train" = some (.ref f_check_train)) (G_check_train : FnOk P w K mg base CX0 4 f_check_train fd_check_train ["train"] (sp_check_train K)) :
    FnOk P w K mg base CX0 5 f fd ["train", "stand"] (sp_check_stand K) := by
  refine F.ok sc_check_stand (fun vs H Q E h => ?_) (fun cdv A outer s H vs Q E hr h => ?_)
  ·
    obtain ⟨a, t, ps, xs, rfl, _⟩ := h
    rfl
  ·
    obtain ⟨a, t, ps, xs, rfl, hT, hok, hps, hS, hso, q⟩ := h
    refine ⟨_, (pss_cons (ps_expr (pe_call G_check_train (hr.mono (by decide)) (by rfl) g_check_train F_check_train.kp b_check_train .nil pass0 (pa_cons (pv 0) pa_nil)))
      (pss_one (ps_if (pt_not (pt_val (pe_call G_is_stand (hr.mono (by decide)) (by rfl) g_is_stand F_is_stand.kp b_is_stand .nil pass0 (pa_cons (pv 0) (pa_cons (pv 1) pa_nil))))) (pss_one ps_never) pss_nil))), ?_⟩
    refine w_st (σ' := [some (.ref a), some (.ref t)]) rfl ?_
    walk_at "ct"
    refine ⟨a, ps, rfl, hT, hok, hps, fun H1 s1 => ?_⟩
    walk_at "ct"
    refine ⟨a, t, ps, xs, rfl, hT.same s1, Same.tup s1 hS, hso, fun H2 s2 => ?_⟩
    walk_at "ct"
    exact q H2 (s1.trans s2)
abbrev S_is_way : Stmt := topS 14
theorem sc_is_way : FnScope ["thing"] ["thing"] (defScope S_is_way) := ⟨rfl, rfl, rfl, by decide +kernel, rfl, by decide +kernel, by decide +kernel⟩
def isWay : PyData → Bool
  | .int i => decide (i = 1) || decide (i = -1)
  | _ => false
def sp_is_way (K : PySem.W.Frag) : Sp := fun vs H Q _ => ∃ (v : V) (d : PyData), vs = [v] ∧ Dp K H v d ∧ ∀ H', Same H H' → Q (.bl (isWay d)) H'
theorem ok_is_way {f : Addr} {fd : FuncData} {f_is_whole : Addr} {fd_is_whole : FuncData} (F : Fun K "is_way" "is_way" S_is_way f fd)
    (F_is_whole : Fun K "is_whole" "is_whole" S_is_whole f_is_whole fd_is_whole) (b_is_whole : Binds K fd_is_whole ["thing"] []) (g_is_whole : mg "is_whole" = some (.ref f_is_whole)) (G_is_whole : FnOk P w K mg base CX0 1 f_is_whole fd_is_whole ["thing"] (sp_is_whole K)) :
    FnOk P w K mg base CX0 2 f fd ["thing"] (sp_is_way K) := by
  refine F.ok sc_is_way (fun vs H Q E h => ?_) (fun cdv A outer s H vs Q E hr h => ?_)
  ·
    obtain ⟨v, d, rfl, _⟩ := h
    rfl
  ·
    obtain ⟨v, d, rfl, hd, q⟩ := h
    refine ⟨_, (pss_one (ps_ret (pe_and (pe_call G_is_whole (hr.mono (by decide)) (by rfl) g_is_whole F_is_whole.kp b_is_whole .nil pass0 (pa_cons (pv 0) pa_nil)) (pe_one (pe_cmpR (r := rIn K false) op_in_seq (pv 0) (pe_tup (pa_cons pe_int (pa_cons (pe_un un_neg pe_int) pa_nil))) (by rfl)))))), ?_⟩
    refine w_st (σ' := [some v]) rfl ?_
    walk_at "ct"
    refine ⟨v, d, rfl, hd, ?_⟩
    cases hd with
    | int i =>
      refine w_bl (iteT ?_)
      walk_at "ct"
      refine ⟨len2 rfl, fun p np => ?_⟩
      refine w_inT (ns := [1, -1]) (.of upd_same) ?_
      have e : decide (i ∈ ([1, -1] : List Int)) = isWay (.int i) := by
        rw [Bool.eq_iff_iff, decide_eq_true_iff, isWay, Bool.or_eq_true, decide_eq_true_iff, decide_eq_true_iff]
        simp
      rw [e]
      exact q _ (same_upd np)
    | non =>
      refine w_bl (iteF ?_)
      exact q H (Same.refl H)
    | bl b =>
      refine w_bl (iteF ?_)
      exact q H (Same.refl H)
    | str s =>
      refine w_bl (iteF ?_)
      exact q H (Same.refl H)
    | lst g1 g2 =>
      refine w_bl (iteF ?_)
      exact q H (Same.refl H)
    | tup g1 g2 =>
      refine w_bl (iteF ?_)
      exact q H (Same.refl H)
abbrev S_is_deed : Stmt := topS 16
theorem sc_is_deed : FnScope ["thing", "parts", "i", "way", "times"] ["thing", "parts"] (defScope S_is_deed) := ⟨rfl, rfl, rfl, by decide +kernel, rfl, by decide +kernel, by decide +kernel⟩
def sp_is_deed (K : PySem.W.Frag) : Sp := fun vs H Q _ => ∃ (v : V) (d : PyData) (n : Int), vs = [v, .int n] ∧ Dp K H v d ∧ ∀ H', Same H H' → Q (.bl (isD d n)) H'
theorem ok_is_deed {f : Addr} {fd : FuncData} {f_is_whole : Addr} {fd_is_whole : FuncData} {f_is_way : Addr} {fd_is_way : FuncData} (F : Fun K "is_deed" "is_deed" S_is_deed f fd)
    (F_is_whole : Fun K "is_whole" "is_whole" S_is_whole f_is_whole fd_is_whole) (b_is_whole : Binds K fd_is_whole ["thing"] []) (g_is_whole : mg "is_whole" = some (.ref f_is_whole)) (G_is_whole : FnOk P w K mg base CX0 1 f_is_whole fd_is_whole ["thing"] (sp_is_whole K))
    (F_is_way : Fun K "is_way" "is_way" S_is_way f_is_way fd_is_way) (b_is_way : Binds K fd_is_way ["thing"] []) (g_is_way : mg "is_way" = some (.ref f_is_way)) (G_is_way : FnOk P w K mg base CX0 2 f_is_way fd_is_way ["thing"] (sp_is_way K)) (m_isinstance : mg "isinstance" = none) (m_tuple : mg "tuple" = none) (m_len : mg "len" = none) :
    FnOk P w K mg base CX0 3 f fd ["thing", "parts"] (sp_is_deed K) := by
  refine F.ok sc_is_deed (fun vs H Q E h => ?_) (fun cdv A outer s H vs Q E hr h => ?_)
  ·
    obtain ⟨v, d, n, rfl, _⟩ := h
    rfl
  ·
    obtain ⟨v, d, n, rfl, hd, q⟩ := h
    refine ⟨_, (pss_cons (ps_if (PW.pt (pw_or (pt_not (pt_val (pe_callB (r := rIsi K) call_isi (by rfl) m_isinstance (by decide +kernel) (pa_cons (pv 0) (pa_cons (pe_bltn (v := .ty "tuple") (u := .type "tuple") (by rfl) m_tuple (by decide +kernel) rfl) pa_nil))))) (pw_or1 (pt_cmpR op_ne (pe_callB call_len_seq (by rfl) m_len (by decide +kernel) (pa_cons (pv 0) pa_nil)) pe_int (nomark _))))) (pss_one (ps_ret pe_bl)) pss_nil)
      (pss_cons (ps_asg (pv 0) (pg_tup rfl (pgs_cons (pg_name (i := 2) sc_is_deed.nd rfl (.inl rfl)) (pgs_cons (pg_name (i := 3) sc_is_deed.nd rfl (.inl rfl)) (pgs_cons (pg_name (i := 4) sc_is_deed.nd rfl (.inl rfl)) pgs_nil)))))
      (pss_cons (ps_if (PW.pt (pw_or (pt_not (pt_val (pe_call G_is_whole (hr.mono (by decide)) (by rfl) g_is_whole F_is_whole.kp b_is_whole .nil pass0 (pa_cons (pv 2) pa_nil)))) (pw_or (pt_not (pt_val (pe_call G_is_way (hr.mono (by decide)) (by rfl) g_is_way F_is_way.kp b_is_way .nil pass0 (pa_cons (pv 3) pa_nil)))) (pw_or1 (pt_not (pt_val (pe_call G_is_whole (hr.mono (by decide)) (by rfl) g_is_whole F_is_whole.kp b_is_whole .nil pass0 (pa_cons (pv 4) pa_nil)))))))) (pss_one (ps_ret pe_bl)) pss_nil)
      (pss_one (ps_ret (pe_and (pe_chain op_le op_lt pe_int (pv 2) (pv 1)) (pe_one (pe_cmpR op_ge (pv 4) pe_int (nomark _))))))))), ?_⟩
    refine w_st (σ' := [some v, some (.int n), none, none, none]) rfl ?_
    walk_at "ct"
    cases hd with
    | non =>
      refine w_isi (b := false) (.base .non) (kit_ty (by decide +kernel)) ?_
      walk_at "ct"
      exact q H (Same.refl H)
    | bl b =>
      refine w_isi (b := false) (.base (.bl b)) (kit_ty (by decide +kernel)) ?_
      walk_at "ct"
      exact q H (Same.refl H)
    | int i =>
      refine w_isi (b := false) (.base (.int i)) (kit_ty (by decide +kernel)) ?_
      walk_at "ct"
      exact q H (Same.refl H)
    | str x =>
      refine w_isi (b := false) (.base (.str x)) (kit_ty (by decide +kernel)) ?_
      walk_at "ct"
      exact q H (Same.refl H)
    | lst hs ht =>
      refine w_isi (b := false) (tyx_L hs) (kit_ty (by decide +kernel)) ?_
      walk_at "ct"
      exact q H (Same.refl H)
    | @tup a xs ds hs ht =>
      refine w_isi (b := true) (tyx_T hs) (kit_ty (by decide +kernel)) ?_
      walk_at "ct"
      refine ⟨a, xs, rfl, .inr hs, ?_⟩
      walk_at "ct"
      refine w_iteN (fun e => ?_) (fun e => ?_)
      · walk_at "ct"
        have hF : isD (.tuple ds) n = false := by
          cases ht with
          | nil => rfl
          | @cons v0 vs0 d0 ds0 h0 t0 => cases t0 with
            | nil => cases d0 <;> rfl
            | @cons v1 vs1 d1 ds1 h1 t1 => cases t1 with
              | nil => cases d0 <;> first | rfl | (cases d1 <;> rfl)
              | @cons v2 vs2 d2 ds2 h2 t2 => cases t2 with
                | nil => exact absurd rfl e
                | @cons v3 vs3 d3 ds3 h3 t3 => cases d0 <;> first | rfl | (cases d1 <;> first | rfl | (cases d2 <;> rfl))
        rw [hF] at q
        exact q H (Same.refl H)
      · obtain ⟨v0, v1, v2, rfl⟩ : ∃ v0 v1 v2, xs = [v0, v1, v2] := by
          match xs, e with
          | [a, b, c], _ => exact ⟨a, b, c, rfl⟩
          | [], e => exact absurd e (by decide)
          | [_], e => exact absurd e (by show ¬ ((1 : Nat) : Int) = 3; decide)
          | [_, _], e => exact absurd e (by show ¬ ((2 : Nat) : Int) = 3; decide)
          | _ :: _ :: _ :: _ :: r, e => exact absurd e (by rw [List.length_cons, List.length_cons, List.length_cons, List.length_cons]; omega)
        cases ht with
        | @cons _ _ d0 _ h0 t0 => cases t0 with
          | @cons _ _ d1 _ h1 t1 => cases t1 with
            | @cons _ _ d2 _ h2 t2 =>
              cases t2
              walk_at "ct"
              refine w_gtup hs rfl ?_
              walk_at "ct"
              refine ⟨v0, d0, rfl, h0, ?_⟩
              have bad : isD (.tuple [d0, d1, d2]) n = false → ∀ H', Same H H' → Q (.bl false) H' := fun z H' s => by
                rw [z] at q
                exact q H' s
              have sr := Same.refl H
              cases h0 with
              | int i =>
                refine w_bl (w_nT ?_)
                walk_at "ct"
                refine ⟨v1, d1, rfl, h1, fun H1 s1 => ?_⟩
                cases h1 with
                | int w =>
                  cases hw : isWay (.int w) with
                  | false =>
                    walk_at "ct"
                    refine bad ?_ _ s1
                    have hw' : (decide (w = 1) || decide (w = -1)) = false := hw
                    cases d2 <;> first | rfl | (show (_ && _ && (decide (w = 1) || decide (w = -1)) && _) = false; rw [hw', Bool.and_false, Bool.false_and])
                  | true =>
                    have hw' : (decide (w = 1) || decide (w = -1)) = true := hw
                    walk_at "ct"
                    refine ⟨v2, d2, rfl, dp_same s1 h2, ?_⟩
                    cases h2 with
                    | int t =>
                      refine w_bl (w_nT ?_)
                      walk_at "ct"
                      have hD : isD (.tuple [.int i, .int w, .int t]) n = (decide (0 ≤ i) && decide (i < n) && (decide (w = 1) || decide (w = -1)) && decide (0 ≤ t)) := rfl
                      have go : ∀ b, b = isD (.tuple [.int i, .int w, .int t]) n → ∀ H', Same H H' → Q (.bl b) H' := fun b hb H' s => by
                        rw [hb]
                        exact q H' s
                      rw [hD, hw'] at go
                      refine w_ite (fun e1 => ?_) (fun e1 => ?_)
                      · walk_at "ct"
                        refine w_ite (fun e2 => ?_) (fun e2 => ?_)
                        · walk_at "ct"
                          refine go _ ?_ _ s1
                          rw [decide_eq_true e1, decide_eq_true e2]
                          rfl
                        · walk_at "ct"
                          refine go _ ?_ _ s1
                          rw [decide_eq_false e2, Bool.and_false, Bool.false_and, Bool.false_and]
                      · walk_at "ct"
                        refine go _ ?_ _ s1
                        rw [decide_eq_false e1, Bool.false_and, Bool.false_and, Bool.false_and]
                    | non =>
                      refine w_bl (w_nF ?_)
                      walk_at "ct"
                      exact bad rfl _ s1
                    | bl b =>
                      refine w_bl (w_nF ?_)
                      walk_at "ct"
                      exact bad rfl _ s1
                    | str s =>
                      refine w_bl (w_nF ?_)
                      walk_at "ct"
                      exact bad rfl _ s1
                    | lst g1 g2 =>
                      refine w_bl (w_nF ?_)
                      walk_at "ct"
                      exact bad rfl _ s1
                    | tup g1 g2 =>
                      refine w_bl (w_nF ?_)
                      walk_at "ct"
                      exact bad rfl _ s1
                | non =>
                  refine w_bl (w_nF ?_)
                  walk_at "ct"
                  exact bad rfl _ s1
                | bl b =>
                  refine w_bl (w_nF ?_)
                  walk_at "ct"
                  exact bad rfl _ s1
                | str s =>
                  refine w_bl (w_nF ?_)
                  walk_at "ct"
                  exact bad rfl _ s1
                | lst g1 g2 =>
                  refine w_bl (w_nF ?_)
                  walk_at "ct"
                  exact bad rfl _ s1
                | tup g1 g2 =>
                  refine w_bl (w_nF ?_)
                  walk_at "ct"
                  exact bad rfl _ s1
              | non =>
                refine w_bl (w_nF ?_)
                walk_at "ct"
                exact bad rfl _ sr
              | bl b =>
                refine w_bl (w_nF ?_)
                walk_at "ct"
                exact bad rfl _ sr
              | str s =>
                refine w_bl (w_nF ?_)
                walk_at "ct"
                exact bad rfl _ sr
              | lst g1 g2 =>
                refine w_bl (w_nF ?_)
                walk_at "ct"
                exact bad rfl _ sr
              | tup g1 g2 =>
                refine w_bl (w_nF ?_)
                walk_at "ct"
                exact bad rfl _ sr
abbrev S_check_row : Stmt := topS 17
theorem sc_check_row : FnScope ["train", "row", "deed"] ["train", "row"] (defScope S_check_row) := ⟨rfl, rfl, rfl, by decide +kernel, rfl, by decide +kernel, by decide +kernel⟩
def sp_check_row (K : PySem.W.Frag) : Sp := fun vs H Q _ => ∃ (a b : Addr) (ps : List Part) (ds : List Deed), vs = [.ref a, .ref b] ∧ TrainAt K H a ps ∧ RowAt K H b ds ∧ (∀ d ∈ ds, d.ok ps.length) ∧ ∀ H', Same H H' → Q .non H'
theorem ok_check_row {f : Addr} {fd : FuncData} {f_is_deed : Addr} {fd_is_deed : FuncData} (F : Fun K "check_row" "check_row" S_check_row f fd)
    (F_is_deed : Fun K "is_deed" "is_deed" S_is_deed f_is_deed fd_is_deed) (b_is_deed : Binds K fd_is_deed ["thing", "parts"] []) (g_is_deed : mg "is_deed" = some (.ref f_is_deed)) (G_is_deed : FnOk P w K mg base CX0 3 f_is_deed fd_is_deed ["thing", "parts"] (sp_is_deed K)) (m_isinstance : mg "isinstance" = none) (m_list : mg "list" = none) (m_len : mg "len" = none) :
    FnOk P w K mg base CX0 4 f fd ["train", "row"] (sp_check_row K) := by
  refine F.ok sc_check_row (fun vs H Q E h => ?_) (fun cdv A outer s H vs Q E hr h => ?_)
  ·
    obtain ⟨a, b, ps, ds, rfl, _⟩ := h
    rfl
  ·
    obtain ⟨a, b, ps, ds, rfl, ⟨vs, hv, hd⟩, ⟨us, hu, he⟩, hok, q⟩ := h
    refine ⟨_, (pss_cons (ps_if (pt_not (pt_val (pe_callB (r := rIsi K) call_isi (by rfl) m_isinstance (by decide +kernel) (pa_cons (pv 1) (pa_cons (pe_bltn (v := .ty "list") (u := .type "list") (by rfl) m_list (by decide +kernel) rfl) pa_nil))))) (pss_one ps_never) pss_nil)
      (pss_one (ps_for PassesOwn.never rfl (pi_list (pv 1)) (pg_name (i := 2) sc_check_row.nd rfl (.inl rfl))
      (pss_one (ps_if (pt_not (pt_val (pe_call G_is_deed (hr.mono (by decide)) (by rfl) g_is_deed F_is_deed.kp b_is_deed .nil pass0 (pa_cons (pv 2) (pa_cons (pe_callB call_len_seq (by rfl) m_len (by decide +kernel) (pa_cons (pv 0) pa_nil)) pa_nil))))) (pss_one ps_never) pss_nil))))), ?_⟩
    refine w_st (σ' := [some (.ref a), some (.ref b), none]) rfl ?_
    have hvl : vs.length = ps.length := by rw [dpAll_len hd, List.length_map]
    have hul : us.length = ds.length := by rw [dpAll_len he, List.length_map]
    walk_at "ct"
    refine w_isi (b := true) (tyx_L hu) (kit_ty (by decide +kernel)) ?_
    walk_at "ct"
    refine w_IL hu ?_
    refine fb_list us (fun n σ H' => ∃ y, σ = [some (.ref a), some (.ref b), y] ∧ Same H H') ⟨none, rfl, Same.refl H⟩ ?_ ?_ ?_
    · rintro n σ H' hn ⟨y, rfl, sm⟩
      exact sm.seq hu
    · rintro n v σ H' hx ⟨y, rfl, sm⟩
      have hn : n < us.length := (List.getElem?_eq_some_iff.mp hx).1
      obtain ⟨d, hdn⟩ : ∃ d, ds[n]? = some d := ⟨_, List.getElem?_eq_getElem (by omega)⟩
      obtain ⟨v', hv1, hd1⟩ := deed_get he hdn
      cases Option.some.inj (hx.symm.trans hv1)
      walk_at "ct"
      refine ⟨a, vs, rfl, .inl (sm.seq hv), ?_⟩
      walk_at "ct"
      refine ⟨v, d.data, _, rfl, dp_same sm hd1, fun H1 s1 => ?_⟩
      have ok := hok d (List.mem_of_getElem? hdn)
      have hD : isD d.data (vs.length : Int) = true := by
        show (decide (0 ≤ (d.i : Int)) && decide ((d.i : Int) < (vs.length : Int)) && (decide (d.w = 1) || decide (d.w = -1)) && decide (0 ≤ (d.t : Int))) = true
        have o1 := ok.1
        rw [decide_eq_true (show 0 ≤ (d.i : Int) by omega), decide_eq_true (show (d.i : Int) < (vs.length : Int) by omega), decide_eq_true (show 0 ≤ (d.t : Int) by omega), show (decide (d.w = 1) || decide (d.w = -1)) = true by
          rcases ok.2 with z | z
          · rw [decide_eq_true z]; rfl
          · rw [decide_eq_true z, Bool.or_true]]
        rfl
      rw [hD]
      walk_at "ct"
      exact ⟨_, rfl, sm.trans s1⟩
    · rintro σ H' ⟨y, rfl, sm⟩
      exact q H' sm
abbrev S_marks_up_to : Stmt := topS 18
theorem sc_marks_up_to : FnScope ["marks", "place", "low", "high", "middle"] ["marks", "place"] (defScope S_marks_up_to) := ⟨rfl, rfl, rfl, by decide +kernel, rfl, by decide +kernel, by decide +kernel⟩
def sp_marks_up_to (K : PySem.W.Frag) : Sp := fun vs H Q _ => ∃ (b : Addr) (ms : List Int) (r : Int), vs = [.ref b, .int r] ∧ SqT K H b (ms.map V.int) ∧ ms.Pairwise (· < ·) ∧ ms.length ≤ 1000 ∧ Q (.int (cnt ms r)) H
theorem ok_marks_up_to {f : Addr} {fd : FuncData} (F : Fun K "marks_up_to" "marks_up_to" S_marks_up_to f fd) (m_len : mg "len" = none) :
    FnOk P w K mg base CX0 1 f fd ["marks", "place"] (sp_marks_up_to K) := by
  refine F.ok sc_marks_up_to (fun vs H Q E h => ?_) (fun cdv A outer s H vs Q E hr h => ?_)
  ·
    obtain ⟨b, ms, r, rfl, _⟩ := h
    rfl
  ·
    obtain ⟨b, ms, r, rfl, hb, hp, hl, q⟩ := h
    refine ⟨_, (pss_cons (ps_set (i := 2) sc_marks_up_to.nd rfl (.inl rfl) pe_int)
      (pss_cons (ps_set (i := 3) sc_marks_up_to.nd rfl (.inl rfl) (pe_callB call_len_seq (by rfl) m_len (by decide +kernel) (pa_cons (pv 0) pa_nil)))
      (pss_cons (ps_while PassesOwn.never (pt_cmpR op_lt (pv 2) (pv 3) (nomark _)) (pss_cons (ps_set (i := 4) sc_marks_up_to.nd rfl (.inl rfl) (pe_op op_fdivW (pe_op op_add (pv 2) (pv 3)) pe_int))
      (pss_one (ps_if (pt_cmpR op_le (pe_ix (r := rIxT K) ix_tup (pv 0) (pv 4) (fun _ _ => rfl)) (pv 1) (nomark _)) (pss_one (ps_set (i := 2) sc_marks_up_to.nd rfl (.inl rfl) (pe_op op_add (pv 4) pe_int))) (pss_one (ps_set (i := 3) sc_marks_up_to.nd rfl (.inl rfl) (pv 4)))))))
      (pss_one (ps_ret (pv 2)))))), ?_⟩
    refine w_st (σ' := [some (.ref b), some (.int r), none, none, none]) rfl ?_
    walk_at "ct"
    refine ⟨b, _, rfl, .inr hb, ?_⟩
    walk_at "ct"
    rw [List.length_map]
    refine while_by (fun σ H' => ∃ (lo hi : Nat) (y : Option V), σ = [some (.ref b), some (.int r), some (.int (lo : Int)), some (.int (hi : Int)), y] ∧ H' = H ∧ lo ≤ hi ∧ hi ≤ ms.length ∧ (∀ (j : Nat) (m : Int), j < lo → ms[j]? = some m → m ≤ r) ∧ (∀ (j : Nat) (m : Int), hi ≤ j → ms[j]? = some m → r < m))
      (fun σ _ => match σ with | [_, _, some (.int lo), some (.int hi), _] => (hi - lo).toNat | _ => 0)
      ⟨0, ms.length, none, rfl, rfl, Nat.zero_le _, Nat.le_refl _, (fun j m hj => absurd hj (Nat.not_lt_zero j)), fun j m hj e => by rw [List.getElem?_eq_none hj] at e; cases e⟩ ?_ ?_
    · rintro σ H' ⟨lo, hi, y, rfl, rfl, h1, h2, h3, h4⟩
      walk_at "ct"
      refine w_ite (fun e => ?_) (fun e => ?_)
      · walk_at "ct"
        refine w_rI (div_ok (by decide) (by decide)) ?_
        walk_at "ct"
        obtain ⟨mid, hm, g1, g2⟩ : ∃ mid : Nat, ((lo : Int) + (hi : Int)) / 2 = (mid : Int) ∧ lo ≤ mid ∧ mid < hi := ⟨((lo : Int) + (hi : Int)).toNat / 2, by omega, by omega, by omega⟩
        rw [hm]
        obtain ⟨m, hmm⟩ : ∃ m, ms[mid]? = some m := ⟨_, List.getElem?_eq_getElem (by omega)⟩
        refine w_ixT hb (at_of (j := mid) rfl (by rw [List.getElem?_map, hmm]; rfl)) ?_
        walk_at "ct"
        have mono : ∀ (j k : Nat) (x y : Int), j < k → ms[j]? = some x → ms[k]? = some y → x < y := fun j k x y hjk hx hy => by
          obtain ⟨l1, e1⟩ := List.getElem?_eq_some_iff.mp hx
          obtain ⟨l2, e2⟩ := List.getElem?_eq_some_iff.mp hy
          rw [← e1, ← e2]
          exact List.pairwise_iff_getElem.mp hp j k l1 l2 hjk
        refine w_ite (fun e2 => ?_) (fun e2 => ?_)
        · walk_at "ct"
          refine ⟨⟨mid + 1, hi, _, rfl, rfl, by omega, h2, fun j x hj hx => ?_, h4⟩, ?_⟩
          · by_cases hjm : j = mid
            · subst hjm
              cases Option.some.inj (hmm.symm.trans hx)
              exact e2
            · have := mono j mid x m (by omega) hx hmm
              omega
          · show ((hi : Int) - ((mid : Int) + 1)).toNat < ((hi : Int) - (lo : Int)).toNat
            omega
        · walk_at "ct"
          refine ⟨⟨lo, mid, _, rfl, rfl, g1, by omega, h3, fun j x hj hx => ?_⟩, ?_⟩
          · by_cases hjm : j = mid
            · subst hjm
              cases Option.some.inj (hmm.symm.trans hx)
              omega
            · have := mono mid j m x (by omega) hmm hx
              omega
          · show ((mid : Int) - (lo : Int)).toNat < ((hi : Int) - (lo : Int)).toNat
            omega
      · walk_at "ct"
        have e3 : lo = hi := by omega
        subst e3
        rw [← cnt_split ms lo r h2 h3 h4]
        exact q
    · rintro σ H' Q1 Q2 hQ ⟨v1, e1, v2, e2, i, j, rfl, rfl, k, e3, hq⟩
      exact ⟨_, e1, _, e2, i, j, rfl, rfl, k, e3, hQ _ _ hq⟩
abbrev S_marks_ahead : Stmt := topS 19
theorem sc_marks_ahead : FnScope ["part", "tooth"] ["part", "tooth"] (defScope S_marks_ahead) := ⟨rfl, rfl, rfl, by decide +kernel, rfl, by decide +kernel, by decide +kernel⟩
def sp_marks_ahead (K : PySem.W.Frag) : Sp := fun vs H Q _ => ∃ (v : V) (z : Int) (ms : List Int) (y : Int), vs = [v, .int y] ∧ Dp K H v (Part.wheel z ms).data ∧ (Part.wheel z ms).ok ∧ -(2 ^ 220) < y ∧ y < 2 ^ 220 ∧ Q (.int (mah z ms y)) H
theorem ok_marks_ahead {f : Addr} {fd : FuncData} {f_marks_up_to : Addr} {fd_marks_up_to : FuncData} (F : Fun K "marks_ahead" "marks_ahead" S_marks_ahead f fd)
    (F_marks_up_to : Fun K "marks_up_to" "marks_up_to" S_marks_up_to f_marks_up_to fd_marks_up_to) (b_marks_up_to : Binds K fd_marks_up_to ["marks", "place"] []) (g_marks_up_to : mg "marks_up_to" = some (.ref f_marks_up_to)) (G_marks_up_to : FnOk P w K mg base CX0 1 f_marks_up_to fd_marks_up_to ["marks", "place"] (sp_marks_up_to K)) (m_len : mg "len" = none) :
    FnOk P w K mg base CX0 2 f fd ["part", "tooth"] (sp_marks_ahead K) := by
  refine F.ok sc_marks_ahead (fun vs H Q E h => ?_) (fun cdv A outer s H vs Q E hr h => ?_)
  ·
    obtain ⟨v, z, ms, y, rfl, _⟩ := h
    rfl
  ·
    obtain ⟨v, z, ms, y, rfl, hp, ok, y0, y1, q⟩ := h
    refine ⟨_, (pss_one (ps_ret (pe_op op_add (pe_op op_mulW (pe_op op_fdivW (pv 1) (pe_ix (r := rIxT K) ix_tup (pv 0) pe_int (fun _ _ => rfl))) (pe_callB call_len_seq (by rfl) m_len (by decide +kernel) (pa_cons (pe_ix (r := rIxT K) ix_tup (pv 0) pe_int (fun _ _ => rfl)) pa_nil))) (pe_call G_marks_up_to (hr.mono (by decide)) (by rfl) g_marks_up_to F_marks_up_to.kp b_marks_up_to .nil pass0 (pa_cons (pe_ix (r := rIxT K) ix_tup (pv 0) pe_int (fun _ _ => rfl)) (pa_cons (pe_op op_mod (pv 1) (pe_ix (r := rIxT K) ix_tup (pv 0) pe_int (fun _ _ => rfl))) pa_nil)))))), ?_⟩
    obtain ⟨a, b, rfl, ha, hb⟩ := wheel_inv hp
    refine w_st (σ' := [some (.ref a), some (.int y)]) rfl ?_
    have hz : 1 ≤ z := ok.1
    have hz2 : z < 2 ^ 200 := ok.2.1
    walk_at "ct"
    refine w_rI (div_ok (by omega) (by omega)) ?_
    walk_at "ct"
    refine ⟨b, _, rfl, .inr hb, ?_⟩
    have hl : ms.length ≤ 1000 := ok.2.2.2
    have hq : -(2 ^ 220) ≤ y / z ∧ y / z < 2 ^ 220 := by
      refine ⟨Int.le_ediv_of_mul_le (by omega) ?_, Int.ediv_lt_of_lt_mul (by omega) ?_⟩
      · omega
      · omega
    rw [List.length_map]
    refine w_rI (mul_ok (by omega) (by omega) (by omega) (by omega)) ?_
    walk_at "ct"
    refine w_rI (by omega) ?_
    walk_at "ct"
    refine ⟨b, ms, _, rfl, hb, ok.2.2.1.1, hl, ?_⟩
    walk_at "ct"
    exact q
abbrev S_wheel_turned : Stmt := topS 20
theorem sc_wheel_turned : FnScope ["part", "place", "way", "times", "after", "given"] ["part", "place", "way", "times"] (defScope S_wheel_turned) := ⟨rfl, rfl, rfl, by decide +kernel, rfl, by decide +kernel, by decide +kernel⟩
def sp_wheel_turned (K : PySem.W.Frag) : Sp := fun vs H Q _ => ∃ (v : V) (z : Int) (ms : List Int) (x w : Int) (t : Nat), vs = [v, .int x, .int w, .int t] ∧ Dp K H v (Part.wheel z ms).data ∧ (Part.wheel z ms).ok ∧ 0 ≤ x ∧ x < z ∧ Sign w ∧ t < 2 ^ 200 ∧
  ∀ u H', Same H H' → H u = none → H' u = some (.tup [.int (pt (.wheel z ms) x w t).1, .int (pt (.wheel z ms) x w t).2]) → Q (.ref u) H'
theorem ok_wheel_turned {f : Addr} {fd : FuncData} {f_marks_ahead : Addr} {fd_marks_ahead : FuncData} (F : Fun K "wheel_turned" "wheel_turned" S_wheel_turned f fd)
    (F_marks_ahead : Fun K "marks_ahead" "marks_ahead" S_marks_ahead f_marks_ahead fd_marks_ahead) (b_marks_ahead : Binds K fd_marks_ahead ["part", "tooth"] []) (g_marks_ahead : mg "marks_ahead" = some (.ref f_marks_ahead)) (G_marks_ahead : FnOk P w K mg base CX0 2 f_marks_ahead fd_marks_ahead ["part", "tooth"] (sp_marks_ahead K)) (m_abs : mg "abs" = none) :
    FnOk P w K mg base CX0 3 f fd ["part", "place", "way", "times"] (sp_wheel_turned K) := by
  refine F.ok sc_wheel_turned (fun vs H Q E h => ?_) (fun cdv A outer s H vs Q E hr h => ?_)
  ·
    obtain ⟨v, z, ms, x, w, t, rfl, _⟩ := h
    rfl
  ·
    obtain ⟨v, z, ms, x, w, t, rfl, hp, ok, x0, x1, hw, ht, q⟩ := h
    refine ⟨_, (pss_cons (ps_set (i := 4) sc_wheel_turned.nd rfl (.inl rfl) (pe_op op_add (pv 1) (pe_op op_mulW (pv 2) (pv 3))))
      (pss_cons (ps_set (i := 5) sc_wheel_turned.nd rfl (.inl rfl) (pe_callB call_abs (by rfl) m_abs (by decide +kernel) (pa_cons (pe_op op_sub (pe_call G_marks_ahead (hr.mono (by decide)) (by rfl) g_marks_ahead F_marks_ahead.kp b_marks_ahead .nil pass0 (pa_cons (pv 0) (pa_cons (pv 4) pa_nil))) (pe_call G_marks_ahead (hr.mono (by decide)) (by rfl) g_marks_ahead F_marks_ahead.kp b_marks_ahead .nil pass0 (pa_cons (pv 0) (pa_cons (pv 1) pa_nil)))) pa_nil)))
      (pss_one (ps_ret (pe_tup (pa_cons (pe_op op_mod (pv 4) (pe_ix (r := rIxT K) ix_tup (pv 0) pe_int (fun _ _ => rfl))) (pa_cons (pv 5) pa_nil))))))), ?_⟩
    obtain ⟨a, b, rfl, ha, hb⟩ := wheel_inv hp
    refine w_st (σ' := [some (.ref a), some (.int x), some (.int w), some (.int t), none, none]) rfl ?_
    have hz : 1 ≤ z := ok.1
    have hz2 : z < 2 ^ 200 := ok.2.1
    have hw1 : -1 ≤ w ∧ w ≤ 1 := by rcases hw with rfl | rfl <;> exact ⟨by decide, by decide⟩
    walk_at "ct"
    refine w_rI (mul_ok (by omega) (by omega) (by omega) (by omega)) ?_
    walk_at "ct"
    have hb2 : -(2 ^ 220) < x + w * t ∧ x + w * t < 2 ^ 220 := by rcases hw with rfl | rfl <;> exact ⟨by omega, by omega⟩
    refine ⟨_, z, ms, _, rfl, hp, ok, hb2.1, hb2.2, ?_⟩
    walk_at "ct"
    refine ⟨_, z, ms, _, rfl, hp, ok, by omega, by omega, ?_⟩
    walk_at "ct"
    refine ⟨_, rfl, ?_⟩
    walk_at "ct"
    refine w_rI (by omega) ?_
    walk_at "ct"
    refine ⟨len2 rfl, fun p np => ?_⟩
    exact q _ _ (same_upd np) np upd_same
abbrev S_rocker_turned : Stmt := topS 21
theorem sc_rocker_turned : FnScope ["place", "way", "times"] ["place", "way", "times"] (defScope S_rocker_turned) := ⟨rfl, rfl, rfl, by decide +kernel, rfl, by decide +kernel, by decide +kernel⟩
def sp_rocker_turned (K : PySem.W.Frag) : Sp := fun vs H Q _ => ∃ (x w : Int) (t : Nat), vs = [.int x, .int w, .int t] ∧ ∀ u H', Same H H' → H u = none → H' u = some (.tup [.int (pt .rocker x w t).1, .int (pt .rocker x w t).2]) → Q (.ref u) H'
theorem ok_rocker_turned {f : Addr} {fd : FuncData} (F : Fun K "rocker_turned" "rocker_turned" S_rocker_turned f fd) :
    FnOk P w K mg base CX0 1 f fd ["place", "way", "times"] (sp_rocker_turned K) := by
  refine F.ok sc_rocker_turned (fun vs H Q E h => ?_) (fun cdv A outer s H vs Q E hr h => ?_)
  ·
    obtain ⟨x, w, t, rfl, _⟩ := h
    rfl
  ·
    obtain ⟨x, w, t, rfl, q⟩ := h
    refine ⟨_, (pss_cons (ps_if (pt_cmpR op_eq (pv 2) pe_int (nomark _)) (pss_one (ps_ret (pe_tup (pa_cons (pv 0) (pa_cons pe_int pa_nil))))) pss_nil)
      (pss_cons (ps_if (pt_cmpR op_eq (pv 1) (pe_un un_neg pe_int) (nomark _)) (pss_one (ps_ret (pe_tup (pa_cons pe_int (pa_cons pe_int pa_nil))))) pss_nil)
      (pss_one (ps_ret (pe_tup (pa_cons pe_int (pa_cons (pe_op op_sub pe_int (pv 0)) pa_nil))))))), ?_⟩
    refine w_st (σ' := [some (.int x), some (.int w), some (.int t)]) rfl ?_
    walk_at "ct"
    refine w_ite (fun e => ?_) (fun e => ?_)
    · walk_at "ct"
      refine ⟨len2 rfl, fun p np => q _ _ (same_upd np) np ?_⟩
      rw [upd_same]
      simp only [pt, if_pos e]
    · walk_at "ct"
      refine w_ite (fun e2 => ?_) (fun e2 => ?_)
      · walk_at "ct"
        refine ⟨len2 rfl, fun p np => q _ _ (same_upd np) np ?_⟩
        rw [upd_same]
        simp only [pt, if_neg e, if_pos e2]
      · walk_at "ct"
        refine ⟨len2 rfl, fun p np => q _ _ (same_upd np) np ?_⟩
        rw [upd_same]
        simp only [pt, if_neg e, if_neg e2]
abbrev S_spring_turned : Stmt := topS 22
theorem sc_spring_turned : FnScope ["part", "place", "way", "times"] ["part", "place", "way", "times"] (defScope S_spring_turned) := ⟨rfl, rfl, rfl, by decide +kernel, rfl, by decide +kernel, by decide +kernel⟩
def sp_spring_turned (K : PySem.W.Frag) : Sp := fun vs H Q _ => ∃ (v : V) (k x w : Int) (t : Nat), vs = [v, .int x, .int w, .int t] ∧ Dp K H v (Part.spring k).data ∧ (Part.spring k).ok ∧ ∀ u H', Same H H' → H u = none → H' u = some (.tup [.int (pt (.spring k) x w t).1, .int (pt (.spring k) x w t).2]) → Q (.ref u) H'
theorem ok_spring_turned {f : Addr} {fd : FuncData} (F : Fun K "spring_turned" "spring_turned" S_spring_turned f fd) (m_max : mg "max" = none) :
    FnOk P w K mg base CX0 1 f fd ["part", "place", "way", "times"] (sp_spring_turned K) := by
  refine F.ok sc_spring_turned (fun vs H Q E h => ?_) (fun cdv A outer s H vs Q E hr h => ?_)
  ·
    obtain ⟨v, k, x, w, t, rfl, _⟩ := h
    rfl
  ·
    obtain ⟨v, k, x, w, t, rfl, hp, ok, q⟩ := h
    refine ⟨_, (pss_cons (ps_if (pt_cmpR op_eq (pv 2) (pe_un un_neg pe_int) (nomark _)) (pss_one (ps_ret (pe_tup (pa_cons (pe_callB (call_max2 rfl) (by rfl) m_max (by decide +kernel) (pa_cons pe_int (pa_cons (pe_op op_sub (pv 1) (pv 3)) pa_nil))) (pa_cons pe_int pa_nil))))) pss_nil)
      (pss_one (ps_ret (pe_tup (pa_cons (pe_op op_mod (pe_op op_add (pv 1) (pv 3)) (pe_ix (r := rIxT K) ix_tup (pv 0) pe_int (fun _ _ => rfl))) (pa_cons (pe_op op_fdivW (pe_op op_add (pv 1) (pv 3)) (pe_ix (r := rIxT K) ix_tup (pv 0) pe_int (fun _ _ => rfl))) pa_nil)))))), ?_⟩
    obtain ⟨a, rfl, ha⟩ := spring_inv hp
    refine w_st (σ' := [some (.ref a), some (.int x), some (.int w), some (.int t)]) rfl ?_
    have k0 : 1 ≤ k := ok.1
    have k1 : k < 2 ^ 200 := ok.2
    walk_at "ct"
    refine w_ite (fun e2 => ?_) (fun e2 => ?_)
    · walk_at "ct"
      refine ⟨_, _, rfl, ?_⟩
      walk_at "ct"
      refine ⟨len2 rfl, fun p np => q _ _ (same_upd np) np ?_⟩
      rw [upd_same]
      simp only [pt, if_pos e2]
    · walk_at "ct"
      refine w_rI (by omega) ?_
      walk_at "ct"
      refine w_rI (div_ok (by omega) (by omega)) ?_
      walk_at "ct"
      refine ⟨len2 rfl, fun p np => q _ _ (same_upd np) np ?_⟩
      rw [upd_same]
      simp only [pt, if_neg e2]
abbrev S_part_turned : Stmt := topS 23
theorem sc_part_turned : FnScope ["part", "place", "way", "times"] ["part", "place", "way", "times"] (defScope S_part_turned) := ⟨rfl, rfl, rfl, by decide +kernel, rfl, by decide +kernel, by decide +kernel⟩
def sp_part_turned (K : PySem.W.Frag) : Sp := fun vs H Q _ => ∃ (v : V) (p : Part) (x w : Int) (t : Nat), vs = [v, .int x, .int w, .int t] ∧ Dp K H v p.data ∧ p.ok ∧ 0 ≤ x ∧ x < p.places ∧ Sign w ∧ t < 2 ^ 200 ∧
  ∀ u H', Same H H' → H u = none → H' u = some (.tup [.int (pt p x w t).1, .int (pt p x w t).2]) → Q (.ref u) H'
theorem ok_part_turned {f : Addr} {fd : FuncData} {f_spring_turned : Addr} {fd_spring_turned : FuncData} {f_rocker_turned : Addr} {fd_rocker_turned : FuncData} {f_wheel_turned : Addr} {fd_wheel_turned : FuncData} (F : Fun K "part_turned" "part_turned" S_part_turned f fd)
    (F_spring_turned : Fun K "spring_turned" "spring_turned" S_spring_turned f_spring_turned fd_spring_turned) (b_spring_turned : Binds K fd_spring_turned ["part", "place", "way", "times"] []) (g_spring_turned : mg "spring_turned" = some (.ref f_spring_turned)) (G_spring_turned : FnOk P w K mg base CX0 1 f_spring_turned fd_spring_turned ["part", "place", "way", "times"] (sp_spring_turned K))
    (F_rocker_turned : Fun K "rocker_turned" "rocker_turned" S_rocker_turned f_rocker_turned fd_rocker_turned) (b_rocker_turned : Binds K fd_rocker_turned ["place", "way", "times"] []) (g_rocker_turned : mg "rocker_turned" = some (.ref f_rocker_turned)) (G_rocker_turned : FnOk P w K mg base CX0 1 f_rocker_turned fd_rocker_turned ["place", "way", "times"] (sp_rocker_turned K))
    (F_wheel_turned : Fun K "wheel_turned" "wheel_turned" S_wheel_turned f_wheel_turned fd_wheel_turned) (b_wheel_turned : Binds K fd_wheel_turned ["part", "place", "way", "times"] []) (g_wheel_turned : mg "wheel_turned" = some (.ref f_wheel_turned)) (G_wheel_turned : FnOk P w K mg base CX0 3 f_wheel_turned fd_wheel_turned ["part", "place", "way", "times"] (sp_wheel_turned K)) :
    FnOk P w K mg base CX0 4 f fd ["part", "place", "way", "times"] (sp_part_turned K) := by
  refine F.ok sc_part_turned (fun vs H Q E h => ?_) (fun cdv A outer s H vs Q E hr h => ?_)
  ·
    obtain ⟨v, p, x, w, t, rfl, _⟩ := h
    rfl
  ·
    obtain ⟨v, p, x, w, t, rfl, hp, ok, x0, x1, hw, ht, q⟩ := h
    refine ⟨_, (pss_cons (ps_if (pt_cmpR op_eq (pe_ix (r := rIxT K) ix_tup (pv 0) pe_int (fun _ _ => rfl)) pe_str (nomark _)) (pss_one (ps_ret (pe_call G_wheel_turned (hr.mono (by decide)) (by rfl) g_wheel_turned F_wheel_turned.kp b_wheel_turned .nil pass0 (pa_cons (pv 0) (pa_cons (pv 1) (pa_cons (pv 2) (pa_cons (pv 3) pa_nil))))))) pss_nil)
      (pss_cons (ps_if (pt_cmpR op_eq (pe_ix (r := rIxT K) ix_tup (pv 0) pe_int (fun _ _ => rfl)) pe_str (nomark _)) (pss_one (ps_ret (pe_call G_rocker_turned (hr.mono (by decide)) (by rfl) g_rocker_turned F_rocker_turned.kp b_rocker_turned .nil pass0 (pa_cons (pv 1) (pa_cons (pv 2) (pa_cons (pv 3) pa_nil)))))) pss_nil)
      (pss_cons (ps_if (pt_cmpR op_eq (pe_ix (r := rIxT K) ix_tup (pv 0) pe_int (fun _ _ => rfl)) pe_str (nomark _)) (pss_one (ps_ret (pe_call G_spring_turned (hr.mono (by decide)) (by rfl) g_spring_turned F_spring_turned.kp b_spring_turned .nil pass0 (pa_cons (pv 0) (pa_cons (pv 1) (pa_cons (pv 2) (pa_cons (pv 3) pa_nil))))))) pss_nil)
      (pss_one (ps_ret (pe_tup (pa_cons (pv 1) (pa_cons (pe_ifExp (pt_cmpR op_eq (pv 2) pe_int (nomark _)) (pv 3) pe_int) pa_nil)))))))), ?_⟩
    refine w_st (σ' := [some v, some (.int x), some (.int w), some (.int t)]) rfl ?_
    cases p with
    | wheel z ms =>
      obtain ⟨a, b, rfl, ha, hb⟩ := wheel_inv hp
      walk_at "ct"
      exact ⟨_, z, ms, x, w, t, rfl, hp, ok, x0, x1, hw, ht, q⟩
    | click =>
      obtain ⟨a, rfl, ha⟩ := click_inv hp
      walk_at "ct"
      refine w_ite (fun e => ?_) (fun e => ?_)
      · walk_at "ct"
        refine ⟨len2 rfl, fun p np => q _ _ (same_upd np) np ?_⟩
        rw [upd_same]
        simp only [pt, if_pos e]
      · walk_at "ct"
        refine ⟨len2 rfl, fun p np => q _ _ (same_upd np) np ?_⟩
        rw [upd_same]
        simp only [pt, if_neg e]
    | rocker =>
      obtain ⟨a, rfl, ha⟩ := rocker_inv hp
      walk_at "ct"
      exact ⟨x, w, t, rfl, q⟩
    | spring k =>
      obtain ⟨a, rfl, ha⟩ := spring_inv hp
      walk_at "ct"
      exact ⟨_, k, x, w, t, rfl, hp, ok, q⟩
abbrev S_row_left : Stmt := topS 24
theorem sc_row_left : FnScope ["train", "stand", "row", "places", "total", "i", "way", "times", "given", "number"] ["train", "stand", "row"] (defScope S_row_left) := ⟨rfl, rfl, rfl, by decide +kernel, rfl, by decide +kernel, by decide +kernel⟩
def sp_row_left (K : PySem.W.Frag) : Sp := fun vs H Q _ => ∃ (a t b : Addr) (ps : List Part) (xs : List Int) (ds : List Deed), vs = [.ref a, .ref t, .ref b] ∧ TrainAt K H a ps ∧ StandL ps xs ∧ ps.length ≤ 1000 ∧ SqT K H t (xs.map V.int) ∧ RowAt K H b ds ∧ (∀ d ∈ ds, d.ok ps.length ∧ d.t < 2 ^ 200) ∧
  ∀ q u H', Same H H' → H u = none → H q = none → H' u = some (.tup ((rowL ps ds (xs, 0)).1.map V.int)) → H' q = some (.tup [.ref u, .int (rowL ps ds (xs, 0)).2]) → Q (.ref q) H'
theorem ok_row_left {f : Addr} {fd : FuncData} {f_part_turned : Addr} {fd_part_turned : FuncData} (F : Fun K "row_left" "row_left" S_row_left f fd)
    (F_part_turned : Fun K "part_turned" "part_turned" S_part_turned f_part_turned fd_part_turned) (b_part_turned : Binds K fd_part_turned ["part", "place", "way", "times"] []) (g_part_turned : mg "part_turned" = some (.ref f_part_turned)) (G_part_turned : FnOk P w K mg base CX0 4 f_part_turned fd_part_turned ["part", "place", "way", "times"] (sp_part_turned K)) (m_list : mg "list" = none) (m_range : mg "range" = none) (m_tuple : mg "tuple" = none) (m_len : mg "len" = none) :
    FnOk P w K mg base CX0 5 f fd ["train", "stand", "row"] (sp_row_left K) := by
  refine F.ok sc_row_left (fun vs H Q E h => ?_) (fun cdv A outer s H vs Q E hr h => ?_)
  ·
    obtain ⟨a, t, b, ps, xs, ds, rfl, _⟩ := h
    rfl
  ·
    obtain ⟨a, t, b, ps, xs, ds, rfl, ⟨vs, hv, hd⟩, hst, hps, hS, ⟨us, hu, he⟩, hok, q⟩ := h
    refine ⟨_, (pss_cons (ps_set (i := 3) sc_row_left.nd rfl (.inl rfl) (pe_callTy call_list_of (by rfl) m_list (by decide +kernel) (pa_cons (pv 1) pa_nil)))
      (pss_cons (ps_set (i := 4) sc_row_left.nd rfl (.inl rfl) pe_int)
      (pss_cons (ps_for PassesOwn.never rfl (pi_list (pv 2)) (pg_tup rfl (pgs_cons (pg_name (i := 5) sc_row_left.nd rfl (.inl rfl)) (pgs_cons (pg_name (i := 6) sc_row_left.nd rfl (.inl rfl)) (pgs_cons (pg_name (i := 7) sc_row_left.nd rfl (.inl rfl)) pgs_nil))))
      (pss_cons (ps_set (i := 8) sc_row_left.nd rfl (.inl rfl) (pv 7))
      (pss_cons (ps_for PassesOwn.never rfl (pi_range2 (by rfl) m_range (pa_cons (pv 5) (pa_cons (pe_callB call_len_seq (by rfl) m_len (by decide +kernel) (pa_cons (pv 0) pa_nil)) pa_nil))) (pg_name (i := 9) sc_row_left.nd rfl (.inl rfl))
      (pss_one (ps_asg (pe_call G_part_turned (hr.mono (by decide)) (by rfl) g_part_turned F_part_turned.kp b_part_turned .nil pass0 (pa_cons (pe_ix (r := rIxL K) ix_list (pv 0) (pv 9) (fun _ _ => rfl)) (pa_cons (pe_ix (r := rIxL K) ix_list (pv 3) (pv 9) (fun _ _ => rfl)) (pa_cons (pv 6) (pa_cons (pv 8) pa_nil))))) (pg_tup rfl (pgs_cons (pg_sub (pv 3) (pv 9) set_list) (pgs_cons (pg_name (i := 8) sc_row_left.nd rfl (.inl rfl)) pgs_nil))))))
      (pss_one (ps_aug (i := 4) sc_row_left.nd rfl (.inl rfl) (pe_op op_mulW (pv 6) (pv 8)) ip_add)))))
      (pss_one (ps_ret (pe_tup (pa_cons (pe_callTy call_tuple_of (by rfl) m_tuple (by decide +kernel) (pa_cons (pv 3) pa_nil)) (pa_cons (pv 4) pa_nil)))))))), ?_⟩
    refine w_st (σ' := [some (.ref a), some (.ref t), some (.ref b), none, none, none, none, none, none, none]) rfl ?_
    have hvl : vs.length = ps.length := by rw [dpAll_len hd, List.length_map]
    have hul : us.length = ds.length := by rw [dpAll_len he, List.length_map]
    walk_at "ct"
    refine ⟨t, _, rfl, .inr hS, fun l nl => ?_⟩
    walk_at "ct"
    refine w_IL ((same_upd nl).seq hu) ?_
    refine fb_list us (fun n σ H' => ∃ y4 y5 y6 y7 y8, σ = [some (.ref a), some (.ref t), some (.ref b), some (.ref l), some (.int (rowL ps (ds.take n) (xs, 0)).2), y4, y5, y6, y7, y8] ∧ Same H H' ∧ H' l = some (.lst ((rowL ps (ds.take n) (xs, 0)).1.map V.int)))
      ⟨none, none, none, none, none, rfl, same_upd nl, upd_same⟩ ?_ ?_ ?_
    · rintro n σ H' hn ⟨y4, y5, y6, y7, y8, rfl, sm, _⟩
      exact sm.seq hu
    · rintro n v σ H' hx ⟨y4, y5, y6, y7, y8, rfl, sm, hl⟩
      have hn : n < us.length := (List.getElem?_eq_some_iff.mp hx).1
      obtain ⟨d, hdn⟩ : ∃ d, ds[n]? = some d := ⟨_, List.getElem?_eq_getElem (by omega)⟩
      obtain ⟨v', hv1, hd1⟩ := deed_get he hdn
      cases Option.some.inj (hx.symm.trans hv1)
      obtain ⟨c, rfl, hc⟩ := deed_inv hd1
      have okd := hok d (List.mem_of_getElem? hdn)
      have hi : d.i < ps.length := okd.1.1
      have hw : Sign d.w := okd.1.2
      have ht2 : d.t < 2 ^ 200 := okd.2
      have hw1 : -1 ≤ d.w ∧ d.w ≤ 1 := by rcases hw with z | z <;> rw [z] <;> exact ⟨by decide, by decide⟩
      have hst2 : StandL ps (rowL ps (ds.take n) (xs, 0)).1 := rowL_stand hst fun e he => (hok e (List.mem_of_mem_take he)).1
      have htk : ds.take (n + 1) = ds.take n ++ [d] := by rw [List.take_add_one, hdn]; rfl
      generalize hrw : rowL ps (ds.take n) (xs, 0) = rw0 at *
      obtain ⟨ys, tot⟩ := rw0
      have hst3 : StandL ps ys := hst2
      have hyl : ys.length = ps.length := hst3.len
      refine w_gtup (Same.tup sm hc) rfl ?_
      walk_at "ct"
      refine ⟨a, vs, rfl, .inl (sm.seq hv), ?_⟩
      walk_at "ct"
      refine w_RG2 (by omega) (by omega) (by omega) (by omega) ?_
      rw [show ((vs.length : Int) - (d.i : Int)).toNat = ps.length - d.i by omega]
      refine fb_range (fun m σ H' => ∃ y9, σ = [some (.ref a), some (.ref t), some (.ref b), some (.ref l), some (.int tot), some (.int d.i), some (.int d.w), some (.int d.t), some (.int (rnF (ptw d.w) ps d.i (ys, (d.t : Int)) m).2), y9] ∧ Same H H' ∧ H' l = some (.lst ((rnF (ptw d.w) ps d.i (ys, (d.t : Int)) m).1.map V.int)) ∧ 0 ≤ (rnF (ptw d.w) ps d.i (ys, (d.t : Int)) m).2 ∧ (rnF (ptw d.w) ps d.i (ys, (d.t : Int)) m).2 ≤ d.t)
        ⟨_, rfl, sm, hl, Int.natCast_nonneg _, Int.le_refl _⟩ ?_ ?_
      · rintro m σ H1 hm ⟨y9, rfl, s1, hl1, n0, n1⟩
        obtain ⟨p, hp⟩ : ∃ p, ps[d.i + m]? = some p := ⟨_, List.getElem?_eq_getElem (by omega)⟩
        obtain ⟨v, hv1, hd1⟩ := TrainAt.at (a := a) hd hp
        obtain ⟨x, hx⟩ : ∃ x, ys[d.i + m]? = some x := ⟨_, List.getElem?_eq_getElem (by omega)⟩
        have hx2 : (rnF (ptw d.w) ps d.i (ys, (d.t : Int)) m).1[d.i + m]? = some x := by
          rw [rnF_ahead _ ps d.i _ m (d.i + m) (Nat.le_refl _)]
          exact hx
        have hx0 := hst3.ok.2 _ _ _ hp hx
        have okp : p.ok := hst3.okp p (List.mem_of_getElem? hp)
        obtain ⟨g, hg⟩ : ∃ g : Nat, (rnF (ptw d.w) ps d.i (ys, (d.t : Int)) m).2 = (g : Int) := ⟨_, (Int.toNat_of_nonneg n0).symm⟩
        have er : rnF (ptw d.w) ps d.i (ys, (d.t : Int)) (m + 1) = ((rnF (ptw d.w) ps d.i (ys, (d.t : Int)) m).1.set (d.i + m) (pt p x d.w g).1, (pt p x d.w g).2) := by
          rw [← hg]
          exact stF_at hp hx2
        rw [hg] at n0 n1 ⊢
        walk_at "ct"
        refine w_ixL (s1.seq hv) (at_of (j := d.i + m) (by omega) hv1) ?_
        walk_at "ct"
        refine w_ixL (.of hl1) (at_of (j := d.i + m) (by omega) (by rw [List.getElem?_map, hx2]; rfl)) ?_
        walk_at "ct"
        refine ⟨v, p, x, d.w, g, rfl, dp_same s1 hd1, okp, hx0.1, hx0.2, hw, by omega, fun u H2 s2 nu hu2 => ?_⟩
        refine w_gtup (.of hu2) rfl ?_
        walk_at "ct"
        refine w_setL (s2 _ _ hl1) (ix_at (j := d.i + m) (by omega) (by rw [List.length_map, rnF_len]; show d.i + m < ys.length; omega)) ?_
        walk_at "ct"
        have hle := pt_le okp hx0.1 hx0.2 hw g
        have hnn := pt_nn okp hx0.1 hx0.2 hw g
        refine ⟨some (.int ((d.i : Int) + (m : Int))), ?_, same_new (s1.trans s2) nl, ?_, ?_, ?_⟩
        · rw [er]
        · rw [er, upd_same, List.map_set]
        · rw [er]
          exact hnn
        · rw [er]
          show (pt p x d.w g).2 ≤ _
          omega
      · rintro σ H1 ⟨y9, rfl, s1, hl1, n0, n1⟩
        have hR : rnF (ptw d.w) ps d.i (ys, (d.t : Int)) (ps.length - d.i) = (ys.take d.i ++ (gen (ptw d.w) (ps.drop d.i) (ys.drop d.i) d.t).1, (gen (ptw d.w) (ps.drop d.i) (ys.drop d.i) d.t).2) := rnF_gen _ ps _ _ _ _ hyl (by omega)
        have hD : rowL ps (ds.take (n + 1)) (xs, 0) = ((deedL ps ys d).1, tot + (deedL ps ys d).2) := by
          rw [htk, rowL_app, hrw]
          rfl
        have hl2 : (rnF (ptw d.w) ps d.i (ys, (d.t : Int)) (ps.length - d.i)).1 = (deedL ps ys d).1 := by rw [hR]; rfl
        have hl3 : d.w * (rnF (ptw d.w) ps d.i (ys, (d.t : Int)) (ps.length - d.i)).2 = (deedL ps ys d).2 := by rw [hR]; rfl
        rw [hl2] at hl1
        refine w_aug rfl ?_
        walk_at "ct"
        refine w_rI (mul_ok (by omega) (by omega) (by omega) (by omega)) ?_
        walk_at "ct"
        rw [hl3]
        rw [hD]
        exact ⟨_, _, _, _, _, rfl, s1, hl1⟩
    · rintro σ H' ⟨y4, y5, y6, y7, y8, rfl, sm, hl⟩
      rw [List.take_of_length_le (by omega)] at hl ⊢
      walk_at "ct"
      refine ⟨l, _, rfl, .inl ⟨.of hl, fun u nu => ?_⟩⟩
      walk_at "ct"
      refine ⟨len2 rfl, fun p np => ?_⟩
      have s2 : Same H (upd H' u (.tup ((rowL ps ds (xs, 0)).1.map V.int))) := same_new sm (sm.free nu)
      exact q p u _ (same_new s2 (s2.free np)) (sm.free nu) (s2.free np) (by rw [upd_ne (ne_of_none upd_same np)]; exact upd_same) upd_same
abbrev S_left : Stmt := topS 25
theorem sc_left : FnScope ["train", "stand", "row"] ["train", "stand", "row"] (defScope S_left) := ⟨rfl, rfl, rfl, by decide +kernel, rfl, by decide +kernel, by decide +kernel⟩
def sp_left (K : PySem.W.Frag) : Sp := fun vs H Q _ => ∃ (a t b : Addr) (ps : List Part) (xs : List Int) (ds : List Deed), vs = [.ref a, .ref t, .ref b] ∧ TrainAt K H a ps ∧ StandL ps xs ∧ 1 ≤ ps.length ∧ ps.length ≤ 1000 ∧ SqT K H t (xs.map V.int) ∧ RowAt K H b ds ∧ (∀ d ∈ ds, d.ok ps.length ∧ d.t < 2 ^ 200) ∧
  ∀ q u H', Same H H' → H u = none → H q = none → H' u = some (.tup ((rowL ps ds (xs, 0)).1.map V.int)) → H' q = some (.tup [.ref u, .int (rowL ps ds (xs, 0)).2]) → Q (.ref q) H'
theorem ok_left {f : Addr} {fd : FuncData} {f_row_left : Addr} {fd_row_left : FuncData} {f_check_row : Addr} {fd_check_row : FuncData} {f_check_stand : Addr} {fd_check_stand : FuncData} (F : Fun K "left" "left" S_left f fd)
    (F_row_left : Fun K "row_left" "row_left" S_row_left f_row_left fd_row_left) (b_row_left : Binds K fd_row_left ["train", "stand", "row"] []) (g_row_left : mg "row_left" = some (.ref f_row_left)) (G_row_left : FnOk P w K mg base CX0 5 f_row_left fd_row_left ["train", "stand", "row"] (sp_row_left K))
    (F_check_row : Fun K "check_row" "check_row" S_check_row f_check_row fd_check_row) (b_check_row : Binds K fd_check_row ["train", "row"] []) (g_check_row : mg "check_row" = some (.ref f_check_row)) (G_check_row : FnOk P w K mg base CX0 4 f_check_row fd_check_row ["train", "row"] (sp_check_row K))
    (F_check_stand : Fun K "check_stand" "check_stand" S_check_stand f_check_stand fd_check_stand) (b_check_stand : Binds K fd_check_stand ["train", "stand"] []) (g_check_stand : mg "check_stand" = some (.ref f_check_stand)) (G_check_stand : FnOk P w K mg base CX0 5 f_check_stand fd_check_stand ["train", "stand"] (sp_check_stand K)) :
    FnOk P w K mg base CX0 6 f fd ["train", "stand", "row"] (sp_left K) := by
  refine F.ok sc_left (fun vs H Q E h => ?_) (fun cdv A outer s H vs Q E hr h => ?_)
  ·
    obtain ⟨a, t, b, ps, xs, ds, rfl, _⟩ := h
    rfl
  ·
    obtain ⟨a, t, b, ps, xs, ds, rfl, hT, hst, hp1, hps, hS, hR, hok, q⟩ := h
    refine ⟨_, (pss_cons (ps_expr (pe_call G_check_stand (hr.mono (by decide)) (by rfl) g_check_stand F_check_stand.kp b_check_stand .nil pass0 (pa_cons (pv 0) (pa_cons (pv 1) pa_nil))))
      (pss_cons (ps_expr (pe_call G_check_row (hr.mono (by decide)) (by rfl) g_check_row F_check_row.kp b_check_row .nil pass0 (pa_cons (pv 0) (pa_cons (pv 2) pa_nil))))
      (pss_one (ps_ret (pe_call G_row_left (hr.mono (by decide)) (by rfl) g_row_left F_row_left.kp b_row_left .nil pass0 (pa_cons (pv 0) (pa_cons (pv 1) (pa_cons (pv 2) pa_nil)))))))), ?_⟩
    refine w_st (σ' := [some (.ref a), some (.ref t), some (.ref b)]) rfl ?_
    walk_at "ct"
    refine ⟨a, t, ps, xs, rfl, hT, hst.okp, hp1, hS, hst.ok, fun H1 s1 => ?_⟩
    walk_at "ct"
    refine ⟨a, b, ps, ds, rfl, hT.same s1, hR.same s1, fun d hd => (hok d hd).1, fun H2 s2 => ?_⟩
    have s12 := s1.trans s2
    walk_at "ct"
    exact ⟨a, t, b, ps, xs, ds, rfl, hT.same s12, hst, hps, Same.tup s12 hS, hR.same s12, hok, fun q' u H3 s3 nu nq hu hq => q q' u H3 (s12.trans s3) (s12.free nu) (s12.free nq) hu hq⟩
abbrev S_check_count : Stmt := topS 26
theorem sc_check_count : FnScope ["times"] ["times"] (defScope S_check_count) := ⟨rfl, rfl, rfl, by decide +kernel, rfl, by decide +kernel, by decide +kernel⟩
def sp_check_count (K : PySem.W.Frag) : Sp := fun vs H Q _ => ∃ (n : Nat), vs = [.int n] ∧ Q .non H
theorem ok_check_count {f : Addr} {fd : FuncData} {f_is_whole : Addr} {fd_is_whole : FuncData} (F : Fun K "check_count" "check_count" S_check_count f fd)
    (F_is_whole : Fun K "is_whole" "is_whole" S_is_whole f_is_whole fd_is_whole) (b_is_whole : Binds K fd_is_whole ["thing"] []) (g_is_whole : mg "is_whole" = some (.ref f_is_whole)) (G_is_whole : FnOk P w K mg base CX0 1 f_is_whole fd_is_whole ["thing"] (sp_is_whole K)) :
    FnOk P w K mg base CX0 2 f fd ["times"] (sp_check_count K) := by
  refine F.ok sc_check_count (fun vs H Q E h => ?_) (fun cdv A outer s H vs Q E hr h => ?_)
  ·
    obtain ⟨n, rfl, _⟩ := h
    rfl
  ·
    obtain ⟨n, rfl, q⟩ := h
    refine ⟨_, (pss_one (ps_if (PW.pt (pw_or (pt_not (pt_val (pe_call G_is_whole (hr.mono (by decide)) (by rfl) g_is_whole F_is_whole.kp b_is_whole .nil pass0 (pa_cons (pv 0) pa_nil)))) (pw_or1 (pt_cmpR op_lt (pv 0) pe_int (nomark _))))) (pss_one ps_never) pss_nil)), ?_⟩
    refine w_st (σ' := [some (.int n)]) rfl ?_
    walk_at "ct"
    refine ⟨.int n, .int n, rfl, .int _, ?_⟩
    refine w_bl (w_nT ?_)
    walk_at "ct"
    refine w_ite (fun e => absurd e (by omega)) (fun e => ?_)
    walk_at "ct"
    exact q
abbrev S_left_often : Stmt := topS 27
theorem sc_left_often : FnScope ["train", "stand", "row", "times", "first_met", "stands", "sums", "total", "shown", "start", "rounds", "rest"] ["train", "stand", "row", "times"] (defScope S_left_often) := ⟨rfl, rfl, rfl, by decide +kernel, rfl, by decide +kernel, by decide +kernel⟩
def sp_left_often (K : PySem.W.Frag) : Sp := fun vs H Q _ => ∃ (a t b : Addr) (ps : List Part) (xs : List Int) (ds : List Deed) (n : Nat), vs = [.ref a, .ref t, .ref b, .int n] ∧ TrainAt K H a ps ∧ StandL ps xs ∧ 1 ≤ ps.length ∧ ps.length ≤ 1000 ∧ stands ps ≤ 100000 ∧ H t = some (.tup (xs.map V.int)) ∧ RowAt K H b ds ∧ ds.length ≤ 1000 ∧ (∀ d ∈ ds, d.ok ps.length ∧ d.t < 2 ^ 200) ∧ n < 2 ^ 200 ∧
  ∀ q u H', Same H H' → H q = none → H' u = some (.tup ((itR ps ds n xs).1.map V.int)) → H' q = some (.tup [.ref u, .int (itR ps ds n xs).2]) → Q (.ref q) H'
theorem ok_left_often {f : Addr} {fd : FuncData} {f_row_left : Addr} {fd_row_left : FuncData} {f_check_count : Addr} {fd_check_count : FuncData} {f_check_row : Addr} {fd_check_row : FuncData} {f_check_stand : Addr} {fd_check_stand : FuncData} (F : Fun K "left_often" "left_often" S_left_often f fd)
    (F_row_left : Fun K "row_left" "row_left" S_row_left f_row_left fd_row_left) (b_row_left : Binds K fd_row_left ["train", "stand", "row"] []) (g_row_left : mg "row_left" = some (.ref f_row_left)) (G_row_left : FnOk P w K mg base CX0 5 f_row_left fd_row_left ["train", "stand", "row"] (sp_row_left K))
    (F_check_count : Fun K "check_count" "check_count" S_check_count f_check_count fd_check_count) (b_check_count : Binds K fd_check_count ["times"] []) (g_check_count : mg "check_count" = some (.ref f_check_count)) (G_check_count : FnOk P w K mg base CX0 2 f_check_count fd_check_count ["times"] (sp_check_count K))
    (F_check_row : Fun K "check_row" "check_row" S_check_row f_check_row fd_check_row) (b_check_row : Binds K fd_check_row ["train", "row"] []) (g_check_row : mg "check_row" = some (.ref f_check_row)) (G_check_row : FnOk P w K mg base CX0 4 f_check_row fd_check_row ["train", "row"] (sp_check_row K))
    (F_check_stand : Fun K "check_stand" "check_stand" S_check_stand f_check_stand fd_check_stand) (b_check_stand : Binds K fd_check_stand ["train", "stand"] []) (g_check_stand : mg "check_stand" = some (.ref f_check_stand)) (G_check_stand : FnOk P w K mg base CX0 5 f_check_stand fd_check_stand ["train", "stand"] (sp_check_stand K)) (m_divmod : mg "divmod" = none) (m_len : mg "len" = none) :
    FnOk P w K mg base CX0 6 f fd ["train", "stand", "row", "times"] (sp_left_often K) := by
  refine F.ok sc_left_often (fun vs H Q E h => ?_) (fun cdv A outer s H vs Q E hr h => ?_)
  ·
    obtain ⟨a, t, b, ps, xs, ds, n, rfl, _⟩ := h
    rfl
  ·
    obtain ⟨a, t, b, ps, xs, ds, n, rfl, hT, hst, hp1, hps, hmany, hS, hR, hdl, hok, hn, q⟩ := h
    refine ⟨_, (pss_cons (ps_expr (pe_call G_check_stand (hr.mono (by decide)) (by rfl) g_check_stand F_check_stand.kp b_check_stand .nil pass0 (pa_cons (pv 0) (pa_cons (pv 1) pa_nil))))
      (pss_cons (ps_expr (pe_call G_check_row (hr.mono (by decide)) (by rfl) g_check_row F_check_row.kp b_check_row .nil pass0 (pa_cons (pv 0) (pa_cons (pv 2) pa_nil))))
      (pss_cons (ps_expr (pe_call G_check_count (hr.mono (by decide)) (by rfl) g_check_count F_check_count.kp b_check_count .nil pass0 (pa_cons (pv 3) pa_nil)))
      (pss_cons (ps_set (i := 4) sc_left_often.nd rfl (.inl rfl) pe_dnewT)
      (pss_cons (ps_set (i := 5) sc_left_often.nd rfl (.inl rfl) (pe_lst pa_nil))
      (pss_cons (ps_set (i := 6) sc_left_often.nd rfl (.inl rfl) (pe_lst pa_nil))
      (pss_cons (ps_set (i := 7) sc_left_often.nd rfl (.inl rfl) pe_int)
      (pss_cons (ps_while PassesOwn.never (PW.pt (pw_and (pt_cmpR op_lt (pe_callB call_len_seq (by rfl) m_len (by decide +kernel) (pa_cons (pv 5) pa_nil)) (pv 3) (nomark _)) (pw_and1 (pt_cmp (pc_dnotin (hu_of hr) (pv 1) (pv 4)))))) (pss_cons (ps_dput (hu_of hr) (pv 4) (pv 1) (pe_callB call_len_seq (by rfl) m_len (by decide +kernel) (pa_cons (pv 5) pa_nil)) rfl)
      (pss_cons (ps_expr (pe_bm PySem.F.plainAttrs_list PySem.F.slot_list_append PySem.F.type_list_append mt_append (pv 5) (pa_cons (pv 1) pa_nil)))
      (pss_cons (ps_expr (pe_bm PySem.F.plainAttrs_list PySem.F.slot_list_append PySem.F.type_list_append mt_append (pv 6) (pa_cons (pv 7) pa_nil)))
      (pss_cons (ps_asg (pe_call G_row_left (hr.mono (by decide)) (by rfl) g_row_left F_row_left.kp b_row_left .nil pass0 (pa_cons (pv 0) (pa_cons (pv 1) (pa_cons (pv 2) pa_nil)))) (pg_tup rfl (pgs_cons (pg_name (i := 1) sc_left_often.nd rfl (.inl rfl)) (pgs_cons (pg_name (i := 8) sc_left_often.nd rfl (.inl rfl)) pgs_nil))))
      (pss_one (ps_aug (i := 7) sc_left_often.nd rfl (.inl rfl) (pv 8) ip_add)))))))
      (pss_cons (ps_if (pt_cmpR op_eq (pe_callB call_len_seq (by rfl) m_len (by decide +kernel) (pa_cons (pv 5) pa_nil)) (pv 3) (nomark _)) (pss_one (ps_ret (pe_tup (pa_cons (pv 1) (pa_cons (pv 7) pa_nil))))) pss_nil)
      (pss_cons (ps_set (i := 9) sc_left_often.nd rfl (.inl rfl) (pe_dget (hu_of hr) (pv 4) (pv 1) (fun _ _ => rfl)))
      (pss_cons (ps_asg (pe_callB call_divmod (by rfl) m_divmod (by decide +kernel) (pa_cons (pe_op op_sub (pv 3) (pv 9)) (pa_cons (pe_op op_sub (pe_callB call_len_seq (by rfl) m_len (by decide +kernel) (pa_cons (pv 5) pa_nil)) (pv 9)) pa_nil))) (pg_tup rfl (pgs_cons (pg_name (i := 10) sc_left_often.nd rfl (.inl rfl)) (pgs_cons (pg_name (i := 11) sc_left_often.nd rfl (.inl rfl)) pgs_nil))))
      (pss_one (ps_ret (pe_tup (pa_cons (pe_ix (r := rIxL K) ix_list (pv 5) (pe_op op_add (pv 9) (pv 11)) (fun _ _ => rfl)) (pa_cons (pe_op op_add (pe_ix (r := rIxL K) ix_list (pv 6) (pe_op op_add (pv 9) (pv 11)) (fun _ _ => rfl)) (pe_op op_mulW (pv 10) (pe_op op_sub (pv 7) (pe_ix (r := rIxL K) ix_list (pv 6) (pv 9) (fun _ _ => rfl))))) pa_nil)))))))))))))))), ?_⟩
    refine w_st (σ' := [some (.ref a), some (.ref t), some (.ref b), some (.int n), none, none, none, none, none, none, none, none]) rfl ?_
    have hokd : ∀ d ∈ ds, d.ok ps.length := fun d hd => (hok d hd).1
    walk_at "ct"
    refine ⟨a, t, ps, xs, rfl, hT, hst.okp, hp1, .of hS, hst.ok, fun H1 s1 => ?_⟩
    walk_at "ct"
    refine ⟨a, b, ps, ds, rfl, hT.same s1, hR.same s1, hokd, fun H2 s2 => ?_⟩
    have s12 := s1.trans s2
    walk_at "ct"
    refine ⟨n, rfl, ?_⟩
    walk_at "ct"
    intro d hd0
    have e1 := s12.trans (same_upd (o := .dT []) hd0)
    walk_at "ct"
    refine ⟨len2 rfl, fun S hS0 => ?_⟩
    have e2 := e1.trans (same_upd (o := .lst []) hS0)
    walk_at "ct"
    refine ⟨len2 rfl, fun M hM0 => ?_⟩
    have e3 := e2.trans (same_upd (o := .lst []) hM0)
    have ndH : H d = none := s12.free hd0
    have nSH : H S = none := e1.free hS0
    have nMH : H M = none := e2.free hM0
    have hSM : S ≠ M := ne_of_none upd_same hM0
    have fd : (upd (upd (upd H2 d (.dT [])) S (.lst [])) M (.lst [])) d = some (.dT []) := ((same_upd hS0).trans (same_upd hM0)) _ _ upd_same
    have fS : (upd (upd (upd H2 d (.dT [])) S (.lst [])) M (.lst [])) S = some (.lst []) := (same_upd hM0) _ _ upd_same
    have fM : (upd (upd (upd H2 d (.dT [])) S (.lst [])) M (.lst [])) M = some (.lst []) := upd_same
    clear hd0 hS0 hM0 e1 e2
    generalize upd (upd (upd H2 d _) S _) M _ = H3 at *
    walk_at "ct"
    refine while_by (fun σ H' => ∃ (k : Nat) (tk : Addr) (y : Option V) (kvs : List (List Key × V)) (vs : List V), σ = [some (.ref a), some (.ref tk), some (.ref b), some (.int n), some (.ref d), some (.ref S), some (.ref M), some (.int (itR ps ds k xs).2), y, none, none, none] ∧ k ≤ n ∧ Same H H' ∧ H' tk = some (.tup ((itR ps ds k xs).1.map V.int)) ∧ H' d = some (.dT kvs) ∧ kvs.length = k ∧ H' S = some (.lst vs) ∧ vs.length = k ∧ (∀ i, i < k → ∃ c, vs[i]? = some (.ref c) ∧ H' c = some (.tup ((itR ps ds i xs).1.map V.int))) ∧ H' M = some (.lst ((List.range k).map fun i => V.int (itR ps ds i xs).2)) ∧ (∀ i j, i < j → j < k → (itR ps ds i xs).1 ≠ (itR ps ds j xs).1) ∧ (∀ key v, valV kvs key = some v → ∃ j, j < k ∧ v = .int (j : Nat) ∧ key = (itR ps ds j xs).1.map Sum.inl) ∧ (∀ key, valV kvs key = none → ∀ j, j < k → (itR ps ds j xs).1.map Sum.inl ≠ key))
      (fun σ H' => match H' S with | some (.lst vs) => n - vs.length | _ => 0)
      ⟨0, t, none, [], [], rfl, Nat.zero_le _, e3, e3 _ _ hS, fd, rfl, fS, rfl, (fun i hi => absurd hi (Nat.not_lt_zero i)), fM, (fun i j _ hj => absurd hj (Nat.not_lt_zero j)), (fun key v h => by cases h), fun key _ j hj => absurd hj (Nat.not_lt_zero j)⟩ ?_ ?_
    · rintro σ H4 ⟨k, tk, y, kvs, vs, rfl, hkn, s4, ht4, hd4, hkl, hS4, hvl, hvs, hM4, dist, hsome, hnone⟩
      have few := few_stands hst hokd dist
      have small : k < sizeLine := Nat.lt_of_le_of_lt (show k ≤ 100000 by omega) (by decide)
      have keyk : H4 tk = some (.tup (((itR ps ds k xs).1.map (Sum.inl : Int → Key)).map kV)) := by rw [key_map]; exact ht4
      walk_at "ct"
      refine ⟨S, vs, rfl, .inl (.of hS4), ?_⟩
      rw [hvl]
      walk_at "ct"
      refine w_ite (fun e => ?_) (fun e => ?_)
      · walk_at "ct"
        refine ⟨d, _, rfl, DGet.t hd4 keyk, ?_⟩
        cases hv : valV kvs ((itR ps ds k xs).1.map Sum.inl) with
        | none =>
          refine w_bl ?_
          refine w_nF ?_
          walk_at "ct"
          refine ⟨S, vs, rfl, .inl (.of hS4), ?_⟩
          rw [hvl]
          walk_at "ct"
          refine ⟨d, _, rfl, DPut.t hd4 keyk (by rw [hkl]; exact small), ?_⟩
          rw [putK_new _ hv]
          have tk_d : tk ≠ d := ne_of ht4 hd4 (by intro z; cases z)
          have S_d : S ≠ d := ne_of hS4 hd4 (by intro z; cases z)
          have M_d : M ≠ d := ne_of hM4 hd4 (by intro z; cases z)
          have s5 : Same H (upd H4 d (.dT (kvs ++ [((itR ps ds k xs).1.map Sum.inl, V.int (k : Int))]))) := same_new s4 ndH
          have hS5 : (upd H4 d (.dT (kvs ++ [((itR ps ds k xs).1.map Sum.inl, V.int (k : Int))]))) S = some (.lst vs) := by rw [upd_ne S_d]; exact hS4
          have hM5 : (upd H4 d (.dT (kvs ++ [((itR ps ds k xs).1.map Sum.inl, V.int (k : Int))]))) M = some (.lst ((List.range k).map fun i => V.int (itR ps ds i xs).2)) := by rw [upd_ne M_d]; exact hM4
          have hd5 : (upd H4 d (.dT (kvs ++ [((itR ps ds k xs).1.map Sum.inl, V.int (k : Int))]))) d = some (.dT (kvs ++ [((itR ps ds k xs).1.map Sum.inl, V.int (k : Int))])) := upd_same
          have tup5 : ∀ c zs, H4 c = some (.tup zs) → (upd H4 d (.dT (kvs ++ [((itR ps ds k xs).1.map Sum.inl, V.int (k : Int))]))) c = some (.tup zs) := fun c zs hc => by rw [upd_ne (ne_of hc hd4 (by intro z; cases z))]; exact hc
          generalize upd H4 d _ = H5 at *
          walk_at "ct"
          refine ⟨ty_list hS5, ?_⟩
          walk_at "ct"
          refine w_append hS5 (by rw [hvl]; exact small) ?_
          have s6 : Same H (upd H5 S (.lst (vs ++ [.ref tk]))) := same_new s5 nSH
          have hS6 : (upd H5 S (.lst (vs ++ [.ref tk]))) S = some (.lst (vs ++ [.ref tk])) := upd_same
          have hM6 : (upd H5 S (.lst (vs ++ [.ref tk]))) M = some (.lst ((List.range k).map fun i => V.int (itR ps ds i xs).2)) := by rw [upd_ne hSM.symm]; exact hM5
          have hd6 : (upd H5 S (.lst (vs ++ [.ref tk]))) d = some (.dT (kvs ++ [((itR ps ds k xs).1.map Sum.inl, V.int (k : Int))])) := by rw [upd_ne S_d.symm]; exact hd5
          have tup6 : ∀ c zs, H5 c = some (.tup zs) → (upd H5 S (.lst (vs ++ [.ref tk]))) c = some (.tup zs) := fun c zs hc => by rw [upd_ne (ne_of hc hS5 (by intro z; cases z))]; exact hc
          generalize upd H5 S _ = H6 at *
          walk_at "ct"
          refine ⟨ty_list hM6, ?_⟩
          walk_at "ct"
          refine w_append hM6 (by rw [List.length_map, List.length_range]; exact small) ?_
          rw [show ((List.range k).map fun i => V.int (itR ps ds i xs).2) ++ [V.int (itR ps ds k xs).2] = (List.range (k + 1)).map fun i => V.int (itR ps ds i xs).2 by rw [List.range_succ, List.map_append]; rfl]
          have s7 : Same H (upd H6 M (.lst ((List.range (k + 1)).map fun i => V.int (itR ps ds i xs).2))) := same_new s6 nMH
          have hM7 : (upd H6 M (.lst ((List.range (k + 1)).map fun i => V.int (itR ps ds i xs).2))) M = some (.lst ((List.range (k + 1)).map fun i => V.int (itR ps ds i xs).2)) := upd_same
          have hS7 : (upd H6 M (.lst ((List.range (k + 1)).map fun i => V.int (itR ps ds i xs).2))) S = some (.lst (vs ++ [.ref tk])) := by rw [upd_ne hSM]; exact hS6
          have hd7 : (upd H6 M (.lst ((List.range (k + 1)).map fun i => V.int (itR ps ds i xs).2))) d = some (.dT (kvs ++ [((itR ps ds k xs).1.map Sum.inl, V.int (k : Int))])) := by rw [upd_ne M_d.symm]; exact hd6
          have tup7 : ∀ c zs, H4 c = some (.tup zs) → (upd H6 M (.lst ((List.range (k + 1)).map fun i => V.int (itR ps ds i xs).2))) c = some (.tup zs) := fun c zs hc => by rw [upd_ne (ne_of (tup6 _ _ (tup5 _ _ hc)) hM6 (by intro z; cases z))]; exact tup6 _ _ (tup5 _ _ hc)
          generalize upd H6 M _ = H7 at *
          walk_at "ct"
          refine ⟨a, tk, b, ps, (itR ps ds k xs).1, ds, rfl, hT.same s7, itR_stand hst hokd k, hps, .of (tup7 _ _ ht4), hR.same s7, hok, fun g u H8 s8 nu ng hu hg => ?_⟩
          refine w_gtup (.of hg) rfl ?_
          walk_at "ct"
          refine w_aug rfl ?_
          walk_at "ct"
          refine ⟨⟨k + 1, u, _, kvs ++ [((itR ps ds k xs).1.map Sum.inl, V.int (k : Int))], vs ++ [.ref tk], rfl, by omega, s7.trans s8, hu, s8 _ _ hd7, by rw [List.length_append, hkl]; rfl, s8 _ _ hS7, by rw [List.length_append, hvl]; rfl, fun i hi => ?_, s8 _ _ hM7, fun i j hij hj => ?_, fun key v hkv => ?_, fun key hkv j hj => ?_⟩, ?_⟩
          · by_cases hik : i < k
            · obtain ⟨c, hc1, hc2⟩ := hvs i hik
              exact ⟨c, by rw [List.getElem?_append_left (by omega)]; exact hc1, s8 _ _ (tup7 _ _ hc2)⟩
            · have ei : i = k := by omega
              subst ei
              refine ⟨tk, ?_, s8 _ _ (tup7 _ _ ht4)⟩
              rw [List.getElem?_append_right (by omega), hvl, Nat.sub_self]
              rfl
          · by_cases hjk : j < k
            · exact dist i j hij hjk
            · have ej : j = k := by omega
              subst ej
              exact fun z => hnone _ hv i hij (by rw [z])
          · rw [valV_snoc _ _ _ _ hv] at hkv
            by_cases hk2 : key = (itR ps ds k xs).1.map Sum.inl
            · rw [if_pos hk2] at hkv
              cases Option.some.inj hkv
              exact ⟨k, by omega, rfl, hk2⟩
            · rw [if_neg hk2] at hkv
              obtain ⟨j, hj, hv2, hk3⟩ := hsome key v hkv
              exact ⟨j, by omega, hv2, hk3⟩
          · rw [valV_snoc _ _ _ _ hv] at hkv
            by_cases hk2 : key = (itR ps ds k xs).1.map Sum.inl
            · rw [if_pos hk2] at hkv
              cases hkv
            · rw [if_neg hk2] at hkv
              by_cases hjk : j < k
              · exact hnone key hkv j hjk
              · have ej : j = k := by omega
                subst ej
                exact fun z => hk2 z.symm
          · show (match H8 S with | some (.lst vs) => n - vs.length | _ => 0) < (match H4 S with | some (.lst vs) => n - vs.length | _ => 0)
            rw [s8 _ _ hS7, hS4]
            show n - (vs ++ [V.ref tk]).length < n - vs.length
            rw [List.length_append, hvl]
            show n - (k + 1) < n - k
            omega
        | some v =>
          obtain ⟨j, hj, rfl, hkey⟩ := hsome _ _ hv
          have ej : (itR ps ds j xs).1 = (itR ps ds k xs).1 := (inl_inj hkey).symm
          refine w_bl ?_
          refine w_nT ?_
          walk_at "ct"
          refine ⟨S, vs, rfl, .inl (.of hS4), ?_⟩
          rw [hvl]
          walk_at "ct"
          refine w_ite (fun e2 => absurd e2 (by omega)) (fun e2 => ?_)
          walk_at "ct"
          refine ⟨d, _, rfl, (by have z := DGet.t hd4 keyk; rw [hv] at z; exact z), ?_⟩
          walk_at "ct"
          refine ⟨S, vs, rfl, .inl (.of hS4), ?_⟩
          rw [hvl]
          walk_at "ct"
          refine ⟨_, _, rfl, ⟨by omega, by omega⟩, fun pr npr => ?_⟩
          have s5 := same_upd (o := .tup [.int (((n : Int) - (j : Int)) / ((k : Int) - (j : Int))), .int (((n : Int) - (j : Int)) % ((k : Int) - (j : Int)))]) npr
          obtain ⟨r, hr, hrp⟩ : ∃ r : Nat, ((n : Int) - (j : Int)) % ((k : Int) - (j : Int)) = (r : Int) ∧ r = (n - j) % (k - j) := ⟨_, by rw [show (n : Int) - (j : Int) = ((n - j : Nat) : Int) by omega, show (k : Int) - (j : Int) = ((k - j : Nat) : Int) by omega]; exact (Int.natCast_emod _ _).symm, rfl⟩
          obtain ⟨rr, hrr, hrrp⟩ : ∃ rr : Nat, ((n : Int) - (j : Int)) / ((k : Int) - (j : Int)) = (rr : Int) ∧ rr = (n - j) / (k - j) := ⟨_, by rw [show (n : Int) - (j : Int) = ((n - j : Nat) : Int) by omega, show (k : Int) - (j : Int) = ((k - j : Nat) : Int) by omega]; exact (Int.natCast_ediv _ _).symm, rfl⟩
          have hrk : r < k - j := by rw [hrp]; exact Nat.mod_lt _ (by omega)
          have hrn : rr ≤ n := by rw [hrrp]; exact Nat.le_trans (Nat.div_le_self _ _) (Nat.sub_le _ _)
          rw [hr, hrr] at s5 ⊢
          have h5 : Same H4 (upd H4 pr (.tup [.int (rr : Int), .int (r : Int)])) := s5
          obtain ⟨c, hc1, hc2⟩ := hvs (j + r) (by omega)
          have sum1 : (List.range k)[j + r]? = some (j + r) := List.getElem?_range (by omega)
          have sum2 : (List.range k)[j]? = some j := List.getElem?_range hj
          have b1 := itR_sum hst hok hdl k
          have b2 := itR_sum hst hok hdl j
          refine w_gtup (.of upd_same) rfl ?_
          walk_at "ct"
          refine w_ixL (.of (h5 _ _ hS4)) (at_of (j := j + r) (by omega) hc1) ?_
          walk_at "ct"
          refine w_ixL (.of (h5 _ _ hM4)) (at_of (j := j + r) (by omega) (by rw [List.getElem?_map, sum1]; rfl)) ?_
          walk_at "ct"
          refine w_ixL (.of (h5 _ _ hM4)) (at_of (j := j) rfl (by rw [List.getElem?_map, sum2]; rfl)) ?_
          walk_at "ct"
          refine w_rI (mul_ok (by omega) (by omega) (by omega) (by omega)) ?_
          walk_at "ct"
          refine ⟨len2 rfl, fun p np => ?_⟩
          have hat := itR_at (n := n) hj (by omega) ej
          rw [← hrp, ← hrrp] at hat
          have s6 := h5.trans (same_upd (o := .tup [.ref c, .int ((itR ps ds (j + r) xs).2 + (rr : Int) * ((itR ps ds k xs).2 - (itR ps ds j xs).2))]) np)
          refine q p c _ (s4.trans s6) ((s4.trans h5).free np) ?_ ?_
          · rw [hat]
            exact s6 _ _ hc2
          · rw [hat]
            exact upd_same
      · have ek : k = n := by omega
        subst ek
        walk_at "ct"
        refine ⟨S, vs, rfl, .inl (.of hS4), ?_⟩
        rw [hvl]
        walk_at "ct"
        refine w_ite (fun e2 => ?_) (fun e2 => absurd rfl e2)
        walk_at "ct"
        refine ⟨len2 rfl, fun p np => ?_⟩
        have s5 := same_upd (o := .tup [.ref tk, .int (itR ps ds k xs).2]) np
        exact q p tk _ (s4.trans s5) (s4.free np) (s5 _ _ ht4) upd_same
    · rintro σ H4 Q1 Q2 hQ ⟨v5, e5, p5, ys, z5, hsq, v3, e3, i, j, z1, z2, k, z3, hk⟩
      refine ⟨v5, e5, p5, ys, z5, hsq, v3, e3, i, j, z1, z2, k, z3, ?_⟩
      by_cases hkt : k = true
      · rw [if_pos hkt] at hk ⊢
        obtain ⟨v1, g1, v4, g4, dd, o, g2, g3, kk, g5, g6⟩ := hk
        exact ⟨v1, g1, v4, g4, dd, o, g2, g3, kk, g5, hQ _ _ g6⟩
      · rw [if_neg hkt] at hk ⊢
        exact hQ _ _ hk
abbrev S__law_draws : Stmt := topS 29
theorem sc__law_draws : FnScope ["_law_cell"] ["_law_cell"] (defScope S__law_draws) := ⟨rfl, rfl, rfl, by decide +kernel, rfl, by decide +kernel, by decide +kernel⟩
def sp__law_draws (K : PySem.W.Frag) : Sp := fun vs H Q _ => ∃ c : Int, vs = [.int c] ∧ ∀ D H', Same H H' → H D = none → H' D = some (DrO D 0) → Q (.ref D) H'
theorem ok__law_draws {f : Addr} {fd : FuncData} (F : Fun K "_law_draws" "_law_draws" S__law_draws f fd) :
    FnOk P w K mg base CX0 1 f fd ["_law_cell"] (sp__law_draws K) := by
  refine F.ok sc__law_draws (fun vs H Q E h => ?_) (fun cdv A outer s H vs Q E hr h => ?_)
  ·
    obtain ⟨c, rfl, _⟩ := h
    rfl
  ·
    obtain ⟨c, rfl, q⟩ := h
    refine ⟨_, (pss_cons (ps_if (pt_cmpR op_lt (pv 0) (pe_op op_powB pe_int pe_int) (nomark _)) (pss_one (ps_ret (pe_lstDr (pa_cons (pv 0) (pa_cons pe_int (pa_cons pe_bl pa_nil)))))) pss_nil)
      (pss_one (ps_ret (pe_lstDr (pa_cons (pe_op op_mod (pv 0) (pe_op op_powB (pe_op op_powB (pe_op op_powB pe_int pe_int) pe_int) pe_int)) (pa_cons pe_int (pa_cons pe_bl pa_nil))))))), ?_⟩
    refine w_st (σ' := [some (.int c)]) rfl ?_
    walk_at "ct"
    refine w_rIv (.int 1000000000000000000) ⟨by decide, by decide⟩ rfl ?_
    walk_at "ct"
    refine w_ite (fun e => ?_) (fun e => ?_)
    · walk_at "ct"
      refine w_lstDr ?_
      walk_at "ct"
      exact ⟨c, 0, false, rfl, fun p np => q p _ (same_upd np) np upd_same⟩
    · walk_at "ct"
      refine w_lstDr ?_
      walk_at "ct"
      refine w_rI ⟨by decide, by decide +kernel⟩ ?_
      walk_at "ct"
      refine w_rI ⟨by decide, by decide +kernel⟩ ?_
      walk_at "ct"
      refine w_rI ⟨by decide, by decide +kernel⟩ ?_
      refine w_mod (Int.pow_pos (Int.pow_pos (Int.pow_pos (by decide)))) fun r _ _ => ?_
      walk_at "ct"
      exact ⟨r, 0, true, rfl, fun p np => q p _ (same_upd np) np upd_same⟩
abbrev S__law_next : Stmt := topS 30
theorem sc__law_next : FnScope ["_law_draws_here", "_law_k", "_law_number"] ["_law_draws_here"] (defScope S__law_next) := ⟨rfl, rfl, rfl, by decide +kernel, rfl, by decide +kernel, by decide +kernel⟩
def sp__law_next (K : PySem.W.Frag) : Sp := fun vs H Q _ => ∃ (D : Addr) (c : Nat), vs = [.ref D] ∧ H D = some (DrO D c) ∧ c < 1000000 ∧ ∀ n : Int, 0 ≤ n → n < 2147483648 → Q (.int n) (upd H D (DrO D (c + 1)))
theorem ok__law_next {f : Addr} {fd : FuncData} (F : Fun K "_law_next" "_law_next" S__law_next f fd) :
    FnOk P w K mg base CX0 1 f fd ["_law_draws_here"] (sp__law_next K) := by
  refine F.ok sc__law_next (fun vs H Q E h => ?_) (fun cdv A outer s H vs Q E hr h => ?_)
  ·
    obtain ⟨D, c, rfl, _⟩ := h
    rfl
  ·
    obtain ⟨D, c, rfl, hD, hc, q⟩ := h
    refine ⟨_, (pss_cons (ps_asg (pe_op op_add (pe_ix (r := rIxDr) ix_dr (pv 0) pe_int (fun _ _ => rfl)) pe_int) (pg_sub (pv 0) pe_int set_dr))
      (pss_cons (ps_set (i := 1) sc__law_next.nd rfl (.inl rfl) (pe_ix (r := rIxDr) ix_dr (pv 0) pe_int (fun _ _ => rfl)))
      (pss_cons (ps_if (pt_val (pe_ix (r := rIxDr) ix_dr (pv 0) pe_int (fun _ _ => rfl))) (pss_cons (ps_set (i := 2) sc__law_next.nd rfl (.inl rfl) (pe_op op_mod (pe_ix (r := rIxDr) ix_dr (pv 0) pe_int (fun _ _ => rfl)) (pe_op op_powB pe_int pe_int)))
      (pss_cons (ps_asg (pe_op op_fdivW (pe_ix (r := rIxDr) ix_dr (pv 0) pe_int (fun _ _ => rfl)) (pe_op op_powB pe_int pe_int)) (pg_sub (pv 0) pe_int set_dr))
      (pss_one (ps_ret (pv 2))))) pss_nil)
      (pss_cons (ps_set (i := 2) sc__law_next.nd rfl (.inl rfl) (pe_op op_mod (pe_op op_mulW (pe_op op_add (pe_op op_add (pe_op op_mod (pe_ix (r := rIxDr) ix_dr (pv 0) pe_int (fun _ _ => rfl)) pe_int) (pe_op op_mulW (pe_op op_mulW (pv 1) (pv 1)) pe_int)) (pv 1)) pe_int) pe_int))
      (pss_cons (ps_set (i := 2) sc__law_next.nd rfl (.inl rfl) (pe_op op_mod (pe_op op_mulW (pv 2) (pv 2)) pe_int))
      (pss_one (ps_ret (pe_op op_fdivW (pe_op op_mod (pe_op op_mulW (pv 2) (pe_op op_add (pv 2) pe_int)) pe_int) pe_int)))))))), ?_⟩
    refine w_st (σ' := [some (.ref D), none, none]) rfl ?_
    walk_at "ct"
    refine w_dr1 hD ?_
    walk_at "ct"
    refine ⟨D, 1, c, rfl, rfl, hD, .inr ⟨rfl, c + 1, by rw [show ((c + 1 : Nat) : Int) = (c : Int) + 1 by omega], ?_⟩⟩
    have h1 : (upd H D (DrO D (c + 1))) D = some (DrO D (c + 1)) := upd_same
    have e2 : upd (upd H D (DrO D (c + 1))) D (DrO D (c + 1)) = upd H D (DrO D (c + 1)) := by
      funext a
      by_cases z : a = D
      · rw [z, upd_same, upd_same]
      · rw [upd_ne z]
    generalize upd H D (DrO D (c + 1)) = H1 at *
    walk_at "ct"
    refine w_dr1 h1 ?_
    walk_at "ct"
    refine w_dr2 h1 fun b => ?_
    obtain ⟨k, hk⟩ : ∃ k : Int, ((c + 1 : Nat) : Int) = k := ⟨_, rfl⟩
    have k0 : 0 ≤ k := by omega
    have k1 : k ≤ 1000000 := by omega
    rw [hk]
    cases b with
    | true =>
      walk_at "ct"
      refine w_dr0 h1 fun n => ?_
      walk_at "ct"
      refine w_rIv (.int 1000000) ⟨by decide, by decide⟩ rfl ?_
      refine w_mod (by decide) fun r r0 r1 => ?_
      walk_at "ct"
      refine w_dr0 h1 fun n2 => ?_
      walk_at "ct"
      refine w_rIv (.int 1000000) ⟨by decide, by decide⟩ rfl ?_
      refine w_div (div_ok (by decide) (by decide)) fun r' => ?_
      walk_at "ct"
      refine ⟨D, 0, c + 1, rfl, rfl, h1, .inl ⟨rfl, ⟨_, rfl⟩, ?_⟩⟩
      rw [e2]
      walk_at "ct"
      exact q r r0 (by omega)
    | false =>
      walk_at "ct"
      refine w_dr0 h1 fun n => ?_
      walk_at "ct"
      refine w_mod (by decide) fun r0 a0 a1 => ?_
      walk_at "ct"
      have kk : 0 ≤ k * k ∧ k * k ≤ 1000000 * 1000000 := ⟨Int.mul_nonneg k0 k0, Int.mul_le_mul k1 k1 k0 (by decide)⟩
      refine w_rI (mul_ok (by omega) (by omega) (by omega) (by omega)) ?_
      walk_at "ct"
      refine w_rI (mul_ok (by omega) (by omega) (by omega) (by omega)) ?_
      walk_at "ct"
      refine w_rI (mul_ok (by omega) (by omega) (by omega) (by omega)) ?_
      walk_at "ct"
      refine w_mod (by decide) fun r1 b0 b1 => ?_
      walk_at "ct"
      refine w_rI (mul_ok (by omega) (by omega) (by omega) (by omega)) ?_
      walk_at "ct"
      refine w_mod (by decide) fun r2 c0 c1 => ?_
      walk_at "ct"
      refine w_rI (mul_ok (by omega) (by omega) (by omega) (by omega)) ?_
      walk_at "ct"
      refine w_mod (by decide) fun r3 d0 d1 => ?_
      walk_at "ct"
      refine w_rI (div_ok (by decide) (by decide)) ?_
      exact q _ (by omega) (by omega)
abbrev S__law_far : Stmt := topS 31
theorem sc__law_far : FnScope ["_law_draws_here", "_law_most", "_law_told", "_law_k"] ["_law_draws_here", "_law_most"] (defScope S__law_far) := ⟨rfl, rfl, rfl, by decide +kernel, rfl, by decide +kernel, by decide +kernel⟩
def sp__law_far (K : PySem.W.Frag) : Sp := fun vs H Q _ => ∃ (D : Addr) (c : Nat) (most : Int), vs = [.ref D, .int most] ∧ H D = some (DrO D c) ∧ c ≤ 900000 ∧ 1 ≤ most ∧ ∀ n c' H', Dr D c' H H' → c' ≤ c + 9 → 0 ≤ n → n < most → Q (.int n) H'
theorem ok__law_far {f : Addr} {fd : FuncData} {f__law_next : Addr} {fd__law_next : FuncData} (F : Fun K "_law_far" "_law_far" S__law_far f fd)
    (F__law_next : Fun K "_law_next" "_law_next" S__law_next f__law_next fd__law_next) (b__law_next : Binds K fd__law_next ["_law_draws_here"] []) (g__law_next : mg "_law_next" = some (.ref f__law_next)) (G__law_next : FnOk P w K mg base CX0 1 f__law_next fd__law_next ["_law_draws_here"] (sp__law_next K)) (m_range : mg "range" = none) :
    FnOk P w K mg base CX0 2 f fd ["_law_draws_here", "_law_most"] (sp__law_far K) := by
  refine F.ok sc__law_far (fun vs H Q E h => ?_) (fun cdv A outer s H vs Q E hr h => ?_)
  ·
    obtain ⟨D, c, most, rfl, _⟩ := h
    rfl
  ·
    obtain ⟨D, c, most, rfl, hD, hc, m1, q⟩ := h
    refine ⟨_, (pss_cons (ps_set (i := 2) sc__law_far.nd rfl (.inl rfl) pe_int)
      (pss_cons (ps_for PassesOwn.never rfl (pi_range1 (by rfl) m_range (pa_cons (pe_op op_mod (pe_call G__law_next (hr.mono (by decide)) (by rfl) g__law_next F__law_next.kp b__law_next .nil pass0 (pa_cons (pv 0) pa_nil)) pe_int) pa_nil)) (pg_name (i := 3) sc__law_far.nd rfl (.inl rfl))
      (pss_one (ps_set (i := 2) sc__law_far.nd rfl (.inl rfl) (pe_op op_add (pe_op op_mulW (pv 2) (pe_op op_powB pe_int pe_int)) (pe_op op_mod (pe_call G__law_next (hr.mono (by decide)) (by rfl) g__law_next F__law_next.kp b__law_next .nil pass0 (pa_cons (pv 0) pa_nil)) (pe_op op_powB pe_int pe_int))))))
      (pss_one (ps_ret (pe_op op_mod (pv 2) (pv 1)))))), ?_⟩
    refine w_st (σ' := [some (.ref D), some (.int most), none, none]) rfl ?_
    walk_at "ct"
    refine ⟨D, c, rfl, hD, by omega, fun n1 _ _ => ?_⟩
    have d1 := Dr.step hD (c + 1)
    generalize upd H D _ = H1 at *
    walk_at "ct"
    refine w_mod (by decide) fun r r0 r1 => ?_
    walk_at "ct"
    refine w_RG1 (by omega) (by omega) ?_
    refine fb_range (fun i σ G => ∃ (y3 : Option V) (told : Nat), σ = [some (.ref D), some (.int most), some (.int (told : Int)), y3] ∧ Dr D (c + 1 + i) H G ∧ told < 10 ^ (6 * i)) ⟨none, 0, rfl, d1, by decide⟩ ?_ ?_
    · rintro i σ G hi ⟨y3, told, rfl, dG, tl⟩
      have hi8 : i < 8 := by omega
      have tb : told < 2 ^ 160 := Nat.lt_of_lt_of_le tl (Nat.le_trans (Nat.pow_le_pow_right (by decide) (show 6 * i ≤ 48 by omega)) (by decide))
      walk_at "ct"
      refine w_rIv (.int 1000000) ⟨by decide, by decide⟩ rfl ?_
      walk_at "ct"
      obtain ⟨M, hM⟩ : ∃ M : Nat, (told : Int) * 1000000 = (M : Int) ∧ M = told * 1000000 := ⟨told * 1000000, by rw [Int.natCast_mul]; rfl, rfl⟩
      refine w_rIv (.int (M : Int)) (wide_mul (a := 160) (b := 20) (by omega) (by decide) (by decide) (by decide) (by decide)) (congrArg V.int hM.1) ?_
      walk_at "ct"
      refine ⟨D, c + 1 + i, rfl, dG.2, by omega, fun n2 _ _ => ?_⟩
      have d2 := dG.trans (Dr.step dG.2 (c + 1 + i + 1))
      generalize upd G D _ = G2 at *
      walk_at "ct"
      refine w_rIv (.int 1000000) ⟨by decide, by decide⟩ rfl ?_
      refine w_mod (by decide) fun k k0 k1 => ?_
      walk_at "ct"
      refine ⟨some (.int (0 + (i : Int))), told * 1000000 + k.toNat, ?_, d2, ?_⟩
      · rw [show ((told * 1000000 + k.toNat : Nat) : Int) = (M : Int) + k by have := hM.2; omega]
      · rw [show 6 * (i + 1) = 6 * i + 6 by omega, Nat.pow_add]
        have e6 : 10 ^ 6 = 1000000 := by decide
        rw [e6]
        have : (told + 1) * 1000000 ≤ 10 ^ (6 * i) * 1000000 := Nat.mul_le_mul_right _ tl
        omega
    · rintro σ G ⟨y3, told, rfl, dG, tl⟩
      walk_at "ct"
      refine w_mod (by omega) fun n n0 n1 => ?_
      exact q n _ G dG (by omega) n0 n1
abbrev S__law_wheel : Stmt := topS 32
theorem sc__law_wheel : FnScope ["_law_draws_here", "_law_teeth", "_law_marks", "_law_k"] ["_law_draws_here"] (defScope S__law_wheel) := ⟨rfl, rfl, rfl, by decide +kernel, rfl, by decide +kernel, by decide +kernel⟩
def sp__law_wheel (K : PySem.W.Frag) : Sp := fun vs H Q _ => ∃ (D : Addr) (c : Nat), vs = [.ref D] ∧ H D = some (DrO D c) ∧ c ≤ 890000 ∧ ∀ g m (z : Int) (ms : List Int) c' H', Dr D c' H H' → c' ≤ c + 60 → H g = none → H' g = some (.tup [.str "wheel", .int z, .ref m]) → H' m = some (.tup (ms.map V.int)) → (Part.wheel z ms).ok → z ≤ 10 ^ 40 → ms.length ≤ 6 → Q (.ref g) H'
theorem ok__law_wheel {f : Addr} {fd : FuncData} {f__law_next : Addr} {fd__law_next : FuncData} {f__law_far : Addr} {fd__law_far : FuncData} (F : Fun K "_law_wheel" "_law_wheel" S__law_wheel f fd)
    (F__law_next : Fun K "_law_next" "_law_next" S__law_next f__law_next fd__law_next) (b__law_next : Binds K fd__law_next ["_law_draws_here"] []) (g__law_next : mg "_law_next" = some (.ref f__law_next)) (G__law_next : FnOk P w K mg base CX0 1 f__law_next fd__law_next ["_law_draws_here"] (sp__law_next K))
    (F__law_far : Fun K "_law_far" "_law_far" S__law_far f__law_far fd__law_far) (b__law_far : Binds K fd__law_far ["_law_draws_here", "_law_most"] []) (g__law_far : mg "_law_far" = some (.ref f__law_far)) (G__law_far : FnOk P w K mg base CX0 2 f__law_far fd__law_far ["_law_draws_here", "_law_most"] (sp__law_far K)) (m_tuple : mg "tuple" = none) (m_range : mg "range" = none) (m_sorted : mg "sorted" = none) (m_set : mg "set" = none) :
    FnOk P w K mg base CX0 3 f fd ["_law_draws_here"] (sp__law_wheel K) := by
  refine F.ok sc__law_wheel (fun vs H Q E h => ?_) (fun cdv A outer s H vs Q E hr h => ?_)
  ·
    obtain ⟨D, c, rfl, _⟩ := h
    rfl
  ·
    obtain ⟨D, c, rfl, hD, hc, q⟩ := h
    refine ⟨_, (pss_cons (ps_set (i := 1) sc__law_wheel.nd rfl (.inr rfl) (pe_op op_add pe_int (pe_op op_mod (pe_call G__law_next (hr.mono (by decide)) (by rfl) g__law_next F__law_next.kp b__law_next .nil pass0 (pa_cons (pv 0) pa_nil)) pe_int)))
      (pss_cons (ps_if (pt_cmpR op_eq (pe_op op_mod (pe_call G__law_next (hr.mono (by decide)) (by rfl) g__law_next F__law_next.kp b__law_next .nil pass0 (pa_cons (pv 0) pa_nil)) pe_int) pe_int (nomark _)) (pss_one (ps_set (i := 1) sc__law_wheel.nd rfl (.inr rfl) (pe_op op_add pe_int (pe_call G__law_far (hr.mono (by decide)) (by rfl) g__law_far F__law_far.kp b__law_far .nil pass0 (pa_cons (pv 0) (pa_cons (pe_op op_sub (pe_op op_powB pe_int pe_int) pe_int) pa_nil)))))) pss_nil)
      (pss_cons (ps_setLc (i := 2) (own := [("_law_k", 3)]) (g := gName 3)  rfl sc__law_wheel.nd rfl rfl (sw_true rfl rfl rfl (by decide +kernel)) (pi_range1 (by rfl) m_range (pa_cons (pe_op op_mod (pe_call G__law_next (hr.mono (by decide)) (by rfl) g__law_next F__law_next.kp b__law_next .nil pass0 (pa_cons (pv 0) pa_nil)) pe_int) pa_nil)) (blkOk_by (own := [("_law_k", 3)]) (N := ["_law_draws_here", "_law_teeth", "_law_marks", "_law_k"]) (sc := defScope S__law_wheel) (by decide +kernel)) (fun _ _ _ _ _ => pg_name (i := 3) sc__law_wheel.nd rfl (Or.inl rfl)) (fun _ _ _ _ _ => pts_nil) (fun _ _ _ _ _ => (pe_call G__law_far (hr.mono (by decide)) (by rfl) g__law_far F__law_far.kp b__law_far .nil pass0 (pa_cons (pv 0) (pa_cons (pv 1) pa_nil)))))
      (pss_cons (ps_if (pt_cmpR op_eq (pe_op op_mod (pe_call G__law_next (hr.mono (by decide)) (by rfl) g__law_next F__law_next.kp b__law_next .nil pass0 (pa_cons (pv 0) pa_nil)) pe_int) pe_int (nomark _)) (pss_one (ps_set (i := 2) sc__law_wheel.nd rfl (.inl rfl) (pe_op op_cat (pv 2) (pe_lst (pa_cons pe_int (pa_cons (pe_op op_sub (pv 1) pe_int) pa_nil)))))) pss_nil)
      (pss_one (ps_ret (pe_tup (pa_cons pe_str (pa_cons (pv 1) (pa_cons (pe_callTy call_tuple_of (by rfl) m_tuple (by decide +kernel) (pa_cons (pe_callB (r := rSrtI w) (cr_srtI rfl) (by rfl) m_sorted (by decide +kernel) (pa_cons (pe_callTy (r := rSetI K w) (cr_setI rfl) (by rfl) m_set (by decide +kernel) (pa_cons (pv 2) pa_nil)) pa_nil)) pa_nil)) pa_nil)))))))))), ?_⟩
    refine w_st (σ' := [some (.ref D), none, none, none]) rfl ?_
    walk_at "ct"
    refine ⟨D, c, rfl, hD, by omega, fun n1 _ _ => ?_⟩
    have d1 := Dr.step hD (c + 1)
    generalize upd H D _ = H1 at *
    walk_at "ct"
    refine w_mod (by decide) fun r r0 r1 => ?_
    walk_at "cq"
    with_reducible refine w_join (fun σ G => ∃ (z : Int) (cG : Nat), σ = [some (.ref D), some (.int z), none, none] ∧ Dr D cG H G ∧ cG ≤ c + 11 ∧ 1 ≤ z ∧ z ≤ 10 ^ 40) ?_ ?_
    rotate_left
    · intro N hN
      walk_at "ct"
      refine ⟨D, c + 1, rfl, d1.2, by omega, fun n2 _ _ => ?_⟩
      have d2 := d1.trans (Dr.step d1.2 (c + 2))
      generalize upd H1 D _ = H2 at *
      walk_at "ct"
      refine w_mod (by decide) fun k k0 k1 => ?_
      walk_at "ct"
      refine w_ite (fun _ => ?_) (fun _ => ?_)
      · walk_at "ct"
        refine w_rIv (.int (10 ^ 40)) ⟨by decide, by decide⟩ rfl ?_
        walk_at "ct"
        refine ⟨D, c + 2, _, rfl, d2.2, by omega, by decide, fun t c3 H3 d3 c3l t0 t1 => ?_⟩
        walk_at "ct"
        exact hN _ _ ⟨1 + t, c3, rfl, d2.trans d3, by omega, by omega, by omega⟩
      · walk_at "ct"
        exact hN _ _ ⟨1 + r, c + 2, rfl, d2, by omega, by omega, by omega⟩
    rintro σ G1 ⟨z, c1, rfl, d2, c1l, z1, z2⟩
    walk_at "ct"
    refine ⟨D, c1, rfl, d2.2, by omega, fun n3 _ _ => ?_⟩
    have d3 := d2.trans (Dr.step d2.2 (c1 + 1))
    generalize upd G1 D _ = G2 at *
    walk_at "ct"
    refine w_mod (by decide) fun k5 k50 k51 => ?_
    walk_at "ct"
    refine w_RG1 (by omega) (by omega) ?_
    refine lb_range (fun A k G => ∃ (cG : Nat) (ms : List Int), Dr D cG G2 G ∧ cG ≤ c1 + 1 + 9 * k ∧ G A = some (.lst (ms.map V.int)) ∧ ms.length = k ∧ ∀ m ∈ ms, 0 ≤ m ∧ m < z) (fun A nA => ⟨c1 + 1, [], (Dr.refl d3.2).same (same_upd nA), by omega, upd_same, rfl, fun _ h => nomatch h⟩) ?_ ?_
    · rintro A nA k G hk ⟨cG, ms, dG, cGl, hA, ml, mb⟩
      have hk4 : k < 5 := by omega
      walk_at "ct"
      refine ⟨rfl, ?_⟩
      walk_at "ct"
      refine ⟨D, cG, z, rfl, dG.2, by omega, z1, fun t c3 H3 d4 c3l t0 t1 => ?_⟩
      have hA2 := d4.at dG.2 hA
      refine ⟨_, hA2, by rw [List.length_map]; exact small1000 (by omega), c3, ms ++ [t], (dG.trans d4).put nA hA2, by omega, by rw [upd_same, List.map_append]; rfl, by rw [List.length_append, ml]; rfl, fun m hm => ?_⟩
      rcases List.mem_append.mp hm with hm | hm
      · exact mb m hm
      · rw [List.mem_singleton.mp hm]
        exact ⟨t0, t1⟩
    rintro A nA G3 ⟨c3, ms, d4, c3l, hA, ml, mb⟩
    have ml5 : ms.length ≤ 4 := by omega
    have c3b : c3 ≤ c + 50 := by omega
    have d5 := d3.trans d4
    have nAH : H A = none := d3.free nA
    clear d1 d2 d3 d4
    walk_at "cq"
    with_reducible refine w_join (fun σ G => ∃ (l : Addr) (ms : List Int) (cG : Nat), σ = [some (.ref D), some (.int z), some (.ref l), none] ∧ Dr D cG H G ∧ cG ≤ c + 52 ∧ G l = some (.lst (ms.map V.int)) ∧ ms.length ≤ 6 ∧ ∀ m ∈ ms, 0 ≤ m ∧ m < z) ?_ ?_
    rotate_left
    · intro N hN
      walk_at "ct"
      refine ⟨D, c3, rfl, d5.2, by omega, fun n6 _ _ => ?_⟩
      have st := Dr.step d5.2 (c3 + 1)
      have hA2 := st.at d5.2 hA
      have d6 := d5.trans st
      clear st
      generalize upd G3 D _ = G4 at *
      walk_at "ct"
      refine w_mod (by decide) fun k k0 k1 => ?_
      walk_at "ct"
      refine w_ite (fun _ => ?_) (fun _ => ?_)
      · walk_at "ct"
        refine ⟨len2 rfl, fun g1 ng1 => ?_⟩
        have u1 : Same G4 (upd G4 g1 (.lst [.int 0, .int (z - 1)])) := same_upd ng1
        have hg1 : (upd G4 g1 (.lst [.int 0, .int (z - 1)])) g1 = some (.lst [.int 0, .int (z - 1)]) := upd_same
        generalize upd G4 g1 _ = G5 at *
        refine ⟨A, g1, _, _, rfl, rfl, u1 _ _ hA2, hg1, Nat.le_of_lt (small1000 (by rw [List.length_map]; show ms.length + 2 ≤ 1000; omega)), fun l nl => ?_⟩
        have u2 : Same G5 (upd G5 l (.lst (ms.map V.int ++ [.int 0, .int (z - 1)]))) := same_upd nl
        have hl : (upd G5 l (.lst (ms.map V.int ++ [.int 0, .int (z - 1)]))) l = some (.lst ((ms ++ [0, z - 1]).map V.int)) := by rw [upd_same, List.map_append]; rfl
        generalize upd G5 l _ = G6 at *
        walk_at "ct"
        refine hN _ _ ⟨l, ms ++ [0, z - 1], c3 + 1, rfl, d6.same (u1.trans u2), by omega, hl, by rw [List.length_append]; show ms.length + 2 ≤ 6; omega, fun m hm => ?_⟩
        rcases List.mem_append.mp hm with hm | hm
        · exact mb m hm
        · simp only [List.mem_cons, List.not_mem_nil, or_false] at hm
          rcases hm with rfl | rfl <;> omega
      · walk_at "ct"
        exact hN _ _ ⟨A, ms, c3 + 1, rfl, d6, by omega, hA2, by omega, mb⟩
    rintro σ G4 ⟨l, ms, c4, rfl, d6, c4l, hl, ml6, mb⟩
    walk_at "ct"
    refine ⟨l, ms, rfl, .inl (.of hl), by omega, fun st cc nst ccl => ?_⟩
    have u1 : Same G4 (upd G4 st (IntSet w st (fun j => decide (j ∈ ms), cc))) := same_upd nst
    have hst : (upd G4 st (IntSet w st (fun j => decide (j ∈ ms), cc))) st = some (IntSet w st (fun j => decide (j ∈ ms), cc)) := upd_same
    generalize upd G4 st _ = G5 at *
    walk_at "ct"
    refine ⟨st, _, rfl, hst, fun ns p pw mem nl np => ?_⟩
    have u2 : Same G5 (upd G5 p (.lst (ns.map V.int))) := same_upd np
    have hp : (upd G5 p (.lst (ns.map V.int))) p = some (.lst (ns.map V.int)) := upd_same
    generalize upd G5 p _ = G6 at *
    walk_at "ct"
    refine ⟨p, _, rfl, .inl ⟨.of hp, fun m nm => ?_⟩⟩
    have u3 : Same G6 (upd G6 m (.tup (ns.map V.int))) := same_upd nm
    have hm : (upd G6 m (.tup (ns.map V.int))) m = some (.tup (ns.map V.int)) := upd_same
    generalize upd G6 m _ = G7 at *
    walk_at "ct"
    refine ⟨len2 rfl, fun g ng => ?_⟩
    walk_at "ct"
    have s4 := (u1.trans u2).trans u3
    have nl6 : ns.length ≤ 6 := by rw [nl]; exact Nat.le_trans ccl ml6
    have mr : Rise z ns := ⟨pw, fun x hx => mb x (of_decide_eq_true ((mem x).mp hx))⟩
    exact q g m z ns c4 _ (d6.same (s4.trans (same_upd ng))) (by omega) ((d6.same s4).free ng) upd_same ((same_upd ng) _ _ hm) ⟨z1, by omega, mr, by omega⟩ z2 nl6
abbrev S__law_behind : Stmt := topS 33
theorem sc__law_behind : FnScope ["_law_draws_here", "_law_many", "_law_told", "_law_k", "_law_part"] ["_law_draws_here", "_law_many"] (defScope S__law_behind) := ⟨rfl, rfl, rfl, by decide +kernel, rfl, by decide +kernel, by decide +kernel⟩
def sp__law_behind (K : PySem.W.Frag) : Sp := fun vs H Q _ => ∃ (D : Addr) (c : Nat) (many : Int), vs = [.ref D, .int many] ∧ H D = some (DrO D c) ∧ c ≤ 880000 ∧ 0 ≤ many ∧ ∀ l us (qs : List Part) c' H', Dr D c' H H' → c' ≤ c + 300 → H l = none → H' l = some (.lst us) → DpAll K H' us (qs.map Part.data) → (∀ p ∈ qs, p.ok ∧ p.places ≤ 10 ^ 40) → qs.length ≤ many.toNat → Q (.ref l) H'
theorem ok__law_behind {f : Addr} {fd : FuncData} {f__law_next : Addr} {fd__law_next : FuncData} {f__law_wheel : Addr} {fd__law_wheel : FuncData} (F : Fun K "_law_behind" "_law_behind" S__law_behind f fd)
    (F__law_next : Fun K "_law_next" "_law_next" S__law_next f__law_next fd__law_next) (b__law_next : Binds K fd__law_next ["_law_draws_here"] []) (g__law_next : mg "_law_next" = some (.ref f__law_next)) (G__law_next : FnOk P w K mg base CX0 1 f__law_next fd__law_next ["_law_draws_here"] (sp__law_next K))
    (F__law_wheel : Fun K "_law_wheel" "_law_wheel" S__law_wheel f__law_wheel fd__law_wheel) (b__law_wheel : Binds K fd__law_wheel ["_law_draws_here"] []) (g__law_wheel : mg "_law_wheel" = some (.ref f__law_wheel)) (G__law_wheel : FnOk P w K mg base CX0 3 f__law_wheel fd__law_wheel ["_law_draws_here"] (sp__law_wheel K)) (m_range : mg "range" = none) (m_min : mg "min" = none) :
    FnOk P w K mg base CX0 4 f fd ["_law_draws_here", "_law_many"] (sp__law_behind K) := by
  refine F.ok sc__law_behind (fun vs H Q E h => ?_) (fun cdv A outer s H vs Q E hr h => ?_)
  ·
    obtain ⟨D, c, many, rfl, _⟩ := h
    rfl
  ·
    obtain ⟨D, c, many, rfl, hD, hc, m0, q⟩ := h
    refine ⟨_, (pss_cons (ps_if (pt_cmpR op_ne (pe_op op_mod (pe_call G__law_next (hr.mono (by decide)) (by rfl) g__law_next F__law_next.kp b__law_next .nil pass0 (pa_cons (pv 0) pa_nil)) pe_int) pe_int (nomark _)) (pss_one (ps_ret (pe_lst pa_nil))) pss_nil)
      (pss_cons (ps_set (i := 2) sc__law_behind.nd rfl (.inl rfl) (pe_lst pa_nil))
      (pss_cons (ps_for PassesOwn.never rfl (pi_range1 (by rfl) m_range (pa_cons (pe_callB (call_min2 rfl) (by rfl) m_min (by decide +kernel) (pa_cons (pv 1) (pa_cons (pe_op op_add pe_int (pe_op op_mod (pe_call G__law_next (hr.mono (by decide)) (by rfl) g__law_next F__law_next.kp b__law_next .nil pass0 (pa_cons (pv 0) pa_nil)) pe_int)) pa_nil))) pa_nil)) (pg_name (i := 3) sc__law_behind.nd rfl (.inl rfl))
      (pss_cons (ps_set (i := 4) sc__law_behind.nd rfl (.inl rfl) (pe_ix (r := rIxL K) ix_list (pe_lst (pa_cons (pe_tup (pa_cons pe_str pa_nil)) (pa_cons (pe_tup (pa_cons pe_str pa_nil)) (pa_cons (pe_tup (pa_cons pe_str (pa_cons (pe_op op_add pe_int (pe_op op_mod (pe_call G__law_next (hr.mono (by decide)) (by rfl) g__law_next F__law_next.kp b__law_next .nil pass0 (pa_cons (pv 0) pa_nil)) pe_int)) pa_nil))) pa_nil)))) (pe_op op_mod (pe_call G__law_next (hr.mono (by decide)) (by rfl) g__law_next F__law_next.kp b__law_next .nil pass0 (pa_cons (pv 0) pa_nil)) pe_int) (fun _ _ => rfl)))
      (pss_cons (ps_if (pt_cmpR op_eq (pe_op op_mod (pe_call G__law_next (hr.mono (by decide)) (by rfl) g__law_next F__law_next.kp b__law_next .nil pass0 (pa_cons (pv 0) pa_nil)) pe_int) pe_int (nomark _)) (pss_one (ps_set (i := 4) sc__law_behind.nd rfl (.inl rfl) (pe_call G__law_wheel (hr.mono (by decide)) (by rfl) g__law_wheel F__law_wheel.kp b__law_wheel .nil pass0 (pa_cons (pv 0) pa_nil)))) pss_nil)
      (pss_one (ps_expr (pe_bm PySem.F.plainAttrs_list PySem.F.slot_list_append PySem.F.type_list_append mt_append (pv 2) (pa_cons (pv 4) pa_nil)))))))
      (pss_one (ps_ret (pv 2)))))), ?_⟩
    refine w_st (σ' := [some (.ref D), some (.int many), none, none, none]) rfl ?_
    walk_at "ct"
    refine ⟨D, c, rfl, hD, by omega, fun n1 _ _ => ?_⟩
    have d1 := Dr.step hD (c + 1)
    generalize upd H D _ = H1 at *
    walk_at "ct"
    refine w_mod (by decide) fun r r0 r1 => ?_
    walk_at "ct"
    refine w_iteN (fun _ => ?_) (fun _ => ?_)
    · walk_at "ct"
      refine ⟨len2 rfl, fun l nl => ?_⟩
      walk_at "ct"
      exact q l [] [] _ _ (d1.same (same_upd nl)) (by omega) (d1.free nl) upd_same .nil (fun _ h => nomatch h) (Nat.zero_le _)
    walk_at "ct"
    refine ⟨len2 rfl, fun l nl => ?_⟩
    have u1 : Same H1 (upd H1 l (.lst [])) := same_upd nl
    have hl : (upd H1 l (.lst [])) l = some (.lst []) := upd_same
    generalize upd H1 l _ = H2 at *
    have d2 := d1.same u1
    have nlH : H l = none := d1.free nl
    walk_at "ct"
    refine ⟨D, c + 1, rfl, d2.2, by omega, fun n2 _ _ => ?_⟩
    have hl3 := (Dr.step d2.2 (c + 2)).at d2.2 hl
    have d3 := d2.trans (Dr.step d2.2 (c + 2))
    generalize upd H2 D _ = H3 at *
    walk_at "ct"
    refine w_mod (by decide) fun k k0 k1 => ?_
    walk_at "ct"
    refine ⟨_, _, rfl, ?_⟩
    obtain ⟨N, hN, N1, N3⟩ : ∃ N : Nat, (if 1 + k < many then 1 + k else many) = (N : Int) ∧ (N : Int) ≤ many ∧ N ≤ 3 := by
      split
      · exact ⟨(1 + k).toNat, by omega, by omega, by omega⟩
      · exact ⟨many.toNat, by omega, by omega, by omega⟩
    rw [hN]
    walk_at "ct"
    refine w_RG1 (by omega) (by omega) ?_
    rw [show ((N : Int)).toNat = N by omega]
    refine fb_range (fun i σ G => ∃ (y3 y4 : Option V) (us : List V) (qs : List Part) (cG : Nat), σ = [some (.ref D), some (.int many), some (.ref l), y3, y4] ∧ Dr D cG H G ∧ cG ≤ c + 2 + 70 * i ∧ G l = some (.lst us) ∧ DpAll K G us (qs.map Part.data) ∧ (∀ p ∈ qs, p.ok ∧ p.places ≤ 10 ^ 40) ∧ qs.length = i) ⟨none, none, [], [], c + 2, rfl, d3, by omega, hl3, .nil, (fun _ h => nomatch h), rfl⟩ ?_ ?_
    · rintro i σ G hi ⟨y3, y4, us, qs, cG, rfl, dG, cGl, hG, hus, hqs, ql⟩
      have ul : us.length = i := by rw [dpAll_len hus, List.length_map, ql]
      walk_at "ct"
      refine ⟨len2 rfl, fun a1 na1 => ?_⟩
      have v1 : Same G (upd G a1 (.tup [.str "click"])) := same_upd na1
      have ha1 : (upd G a1 (.tup [.str "click"])) a1 = some (.tup [.str "click"]) := upd_same
      generalize upd G a1 _ = G1 at *
      walk_at "ct"
      refine ⟨len2 rfl, fun a2 na2 => ?_⟩
      have v2 : Same G1 (upd G1 a2 (.tup [.str "rocker"])) := same_upd na2
      have ha2 : (upd G1 a2 (.tup [.str "rocker"])) a2 = some (.tup [.str "rocker"]) := upd_same
      generalize upd G1 a2 _ = G2 at *
      have dG2 := (Dr.refl dG.2).same (v1.trans v2)
      walk_at "ct"
      refine ⟨D, cG, rfl, dG2.2, by omega, fun n3 _ _ => ?_⟩
      have st := Dr.step dG2.2 (cG + 1)
      have ha13 := st.at dG2.2 (v2 _ _ ha1)
      have ha23 := st.at dG2.2 ha2
      have dG3 := dG2.trans st
      clear st
      generalize upd G2 D _ = G3 at *
      walk_at "ct"
      refine w_mod (by decide) fun s s0 s1 => ?_
      walk_at "ct"
      refine ⟨len2 rfl, fun a3 na3 => ?_⟩
      have v3 : Same G3 (upd G3 a3 (.tup [.str "spring", .int (1 + s)])) := same_upd na3
      have ha3 : (upd G3 a3 (.tup [.str "spring", .int (1 + s)])) a3 = some (.tup [.str "spring", .int (1 + s)]) := upd_same
      generalize upd G3 a3 _ = G4 at *
      walk_at "ct"
      refine ⟨len2 rfl, fun a4 na4 => ?_⟩
      have v4 : Same G4 (upd G4 a4 (.lst [.ref a1, .ref a2, .ref a3])) := same_upd na4
      have ha4 : (upd G4 a4 (.lst [.ref a1, .ref a2, .ref a3])) a4 = some (.lst [.ref a1, .ref a2, .ref a3]) := upd_same
      generalize upd G4 a4 _ = G5 at *
      have dG5 := dG3.same (v3.trans v4)
      walk_at "ct"
      refine ⟨D, cG + 1, rfl, dG5.2, by omega, fun n4 _ _ => ?_⟩
      have st := Dr.step dG5.2 (cG + 2)
      have ha45 := st.at dG5.2 ha4
      have ha15 := st.at dG5.2 ((v3.trans v4) _ _ ha13)
      have ha25 := st.at dG5.2 ((v3.trans v4) _ _ ha23)
      have ha35 := st.at dG5.2 (v4 _ _ ha3)
      have dG6 := dG5.trans st
      clear st
      generalize upd G5 D _ = G6 at *
      walk_at "ct"
      refine w_mod (by decide) fun x x0 x1 => ?_
      obtain ⟨pt, v, hat, hdp, hpk⟩ : ∃ (pt : Part) (v : V), atI [V.ref a1, .ref a2, .ref a3] x = some v ∧ Dp K G6 v pt.data ∧ pt.ok ∧ pt.places ≤ 10 ^ 40 := by
        have : x = 0 ∨ x = 1 ∨ x = 2 := by omega
        rcases this with rfl | rfl | rfl
        · exact ⟨.click, _, at0, click_dp (.of ha15), trivial, by decide⟩
        · exact ⟨.rocker, _, at1, rocker_dp (.of ha25), trivial, by decide⟩
        · exact ⟨.spring (1 + s), _, at2, spring_dp (.of ha35), ⟨by omega, by omega⟩, show 1 + s ≤ 10 ^ 40 by omega⟩
      refine w_ixL (.of ha45) hat ?_
      walk_at "cq"
      with_reducible refine w_join (fun σ J => ∃ (pt : Part) (v : V) (cJ : Nat), σ = [some (.ref D), some (.int many), some (.ref l), some (.int (0 + (i : Int))), some v] ∧ Dr D cJ G J ∧ cJ ≤ cG + 63 ∧ Dp K J v pt.data ∧ pt.ok ∧ pt.places ≤ 10 ^ 40) ?_ ?_
      rotate_left
      · intro NN hNN
        walk_at "ct"
        refine ⟨D, cG + 2, rfl, dG6.2, by omega, fun n5 _ _ => ?_⟩
        have st := Dr.step dG6.2 (cG + 3)
        have hdp7 : Dp K (upd G6 D (DrO D (cG + 3))) v pt.data := by
          cases st.all dG6.2 (.cons hdp .nil) with
          | cons g _ => exact g
        have dG7 := dG6.trans st
        clear st
        generalize upd G6 D _ = G7 at *
        walk_at "ct"
        refine w_mod (by decide) fun y y0 y1 => ?_
        walk_at "ct"
        refine w_ite (fun _ => ?_) (fun _ => ?_)
        · walk_at "ct"
          refine ⟨D, cG + 3, rfl, dG7.2, by omega, fun g m z ms c8 G8 d8 c8l ng hg hm ok z2 ml => ?_⟩
          walk_at "ct"
          exact hNN _ _ ⟨.wheel z ms, .ref g, c8, rfl, dG7.trans d8, by omega, wheel_dp (.of hg) (.of hm), ok, z2⟩
        · walk_at "ct"
          exact hNN _ _ ⟨pt, v, cG + 3, rfl, dG7, by omega, hdp7, hpk⟩
      · rintro σ J ⟨pt, v, cJ, rfl, dJ, cJl, hdp, hpk⟩
        have hJ := dJ.at dG.2 hG
        walk_at "ct"
        refine ⟨ty_list hJ, ?_⟩
        walk_at "ct"
        refine w_append hJ (small1000 (by omega)) ?_
        walk_at "ct"
        refine ⟨_, _, us ++ [v], qs ++ [pt], cJ, rfl, (dG.trans dJ).put nlH hJ, by omega, upd_same, ?_, fun p hp => ?_, by rw [List.length_append, ql]; rfl⟩
        · rw [List.map_append]
          exact dpAll_app (parts_upd hJ _ (dJ.all dG.2 hus)) (parts_upd hJ [pt] (.cons hdp .nil))
        · rcases List.mem_append.mp hp with hp | hp
          · exact hqs p hp
          · rw [List.mem_singleton.mp hp]
            exact hpk
    · rintro σ G ⟨y3, y4, us, qs, cG, rfl, dG, cGl, hG, hus, hqs, ql⟩
      walk_at "ct"
      exact q l us qs cG G dG (by omega) nlH hG hus hqs (by omega)
abbrev S__law_places : Stmt := topS 34
theorem sc__law_places : FnScope ["_law_part"] ["_law_part"] (defScope S__law_places) := ⟨rfl, rfl, rfl, by decide +kernel, rfl, by decide +kernel, by decide +kernel⟩
def sp__law_places (K : PySem.W.Frag) : Sp := fun vs H Q _ => ∃ (v : V) (p : Part), vs = [v] ∧ Dp K H v p.data ∧ ∀ H', Same H H' → Q (.int p.places) H'
theorem ok__law_places {f : Addr} {fd : FuncData} (F : Fun K "_law_places" "_law_places" S__law_places f fd) (m_int : mg "int" = none) :
    FnOk P w K mg base CX0 1 f fd ["_law_part"] (sp__law_places K) := by
  refine F.ok sc__law_places (fun vs H Q E h => ?_) (fun cdv A outer s H vs Q E hr h => ?_)
  ·
    obtain ⟨v, p, rfl, _⟩ := h
    rfl
  ·
    obtain ⟨v, p, rfl, hp, q⟩ := h
    refine ⟨_, (pss_cons (ps_if (pt_cmpR (r := rIn K false) op_in_seq (pe_ix (r := rIxT K) ix_tup (pv 0) pe_int (fun _ _ => rfl)) (pe_lst (pa_cons pe_str (pa_cons pe_str pa_nil))) (by rfl)) (pss_one (ps_ret (pe_ix (r := rIxT K) ix_tup (pv 0) pe_int (fun _ _ => rfl)))) pss_nil)
      (pss_one (ps_ret (pe_op op_add pe_int (pe_callTy call_int1 (by rfl) m_int (by decide +kernel) (pa_cons (pe_cmpR op_eq (pe_ix (r := rIxT K) ix_tup (pv 0) pe_int (fun _ _ => rfl)) pe_str (nomark _)) pa_nil)))))), ?_⟩
    refine w_st (σ' := [some v]) rfl ?_
    cases p with
    | wheel z ms =>
      obtain ⟨a, b, rfl, ha, hb⟩ := wheel_inv hp
      walk_at "ct"
      refine ⟨len2 rfl, fun l nl => ?_⟩
      have s1 : Same H (upd H l (.lst [.str "wheel", .str "spring"])) := same_upd nl
      refine ⟨l, _, rfl, .inl (.of upd_same), rfl, rfl, ?_⟩
      have ha1 := Same.tup s1 ha
      generalize upd H l _ = H1 at *
      rw [show (if false = true then !inV (.str "wheel") [.str "wheel", .str "spring"] else inV (.str "wheel") [.str "wheel", .str "spring"]) = true by decide +kernel]
      walk_at "ct"
      exact q H1 s1
    | click =>
      obtain ⟨a, rfl, ha⟩ := click_inv hp
      walk_at "ct"
      refine ⟨len2 rfl, fun l nl => ?_⟩
      have s1 : Same H (upd H l (.lst [.str "wheel", .str "spring"])) := same_upd nl
      refine ⟨l, _, rfl, .inl (.of upd_same), rfl, rfl, ?_⟩
      have ha1 := Same.tup s1 ha
      generalize upd H l _ = H1 at *
      rw [show (if false = true then !inV (.str "click") [.str "wheel", .str "spring"] else inV (.str "click") [.str "wheel", .str "spring"]) = false by decide +kernel]
      walk_at "ct"
      refine .inr ⟨_, rfl, ?_⟩
      walk_at "ct"
      exact q H1 s1
    | rocker =>
      obtain ⟨a, rfl, ha⟩ := rocker_inv hp
      walk_at "ct"
      refine ⟨len2 rfl, fun l nl => ?_⟩
      have s1 : Same H (upd H l (.lst [.str "wheel", .str "spring"])) := same_upd nl
      refine ⟨l, _, rfl, .inl (.of upd_same), rfl, rfl, ?_⟩
      have ha1 := Same.tup s1 ha
      generalize upd H l _ = H1 at *
      rw [show (if false = true then !inV (.str "rocker") [.str "wheel", .str "spring"] else inV (.str "rocker") [.str "wheel", .str "spring"]) = false by decide +kernel]
      walk_at "ct"
      refine .inr ⟨_, rfl, ?_⟩
      walk_at "ct"
      exact q H1 s1
    | spring k =>
      obtain ⟨a, rfl, ha⟩ := spring_inv hp
      walk_at "ct"
      refine ⟨len2 rfl, fun l nl => ?_⟩
      have s1 : Same H (upd H l (.lst [.str "wheel", .str "spring"])) := same_upd nl
      refine ⟨l, _, rfl, .inl (.of upd_same), rfl, rfl, ?_⟩
      have ha1 := Same.tup s1 ha
      generalize upd H l _ = H1 at *
      rw [show (if false = true then !inV (.str "spring") [.str "wheel", .str "spring"] else inV (.str "spring") [.str "wheel", .str "spring"]) = true by decide +kernel]
      walk_at "ct"
      exact q H1 s1
abbrev S__law_deed : Stmt := topS 35
theorem sc__law_deed : FnScope ["_law_draws_here", "_law_train", "_law_i"] ["_law_draws_here", "_law_train"] (defScope S__law_deed) := ⟨rfl, rfl, rfl, by decide +kernel, rfl, by decide +kernel, by decide +kernel⟩
def sp__law_deed (K : PySem.W.Frag) : Sp := fun vs H Q _ => ∃ (D a : Addr) (c : Nat) (ws : List V), vs = [.ref D, .ref a] ∧ H D = some (DrO D c) ∧ c ≤ 890000 ∧ SqL K H a ws ∧ H a = some (.lst ws) ∧ 1 ≤ ws.length ∧ ∀ g (d : Deed) c' H', Dr D c' H H' → c' ≤ c + 11 → H g = none → H' g = some (.tup [.int (d.i : Int), .int d.w, .int (d.t : Int)]) → d.i < ws.length → Sign d.w → d.t < 10 ^ 39 → Q (.ref g) H'
theorem ok__law_deed {f : Addr} {fd : FuncData} {f__law_far : Addr} {fd__law_far : FuncData} {f__law_next : Addr} {fd__law_next : FuncData} (F : Fun K "_law_deed" "_law_deed" S__law_deed f fd)
    (F__law_far : Fun K "_law_far" "_law_far" S__law_far f__law_far fd__law_far) (b__law_far : Binds K fd__law_far ["_law_draws_here", "_law_most"] []) (g__law_far : mg "_law_far" = some (.ref f__law_far)) (G__law_far : FnOk P w K mg base CX0 2 f__law_far fd__law_far ["_law_draws_here", "_law_most"] (sp__law_far K))
    (F__law_next : Fun K "_law_next" "_law_next" S__law_next f__law_next fd__law_next) (b__law_next : Binds K fd__law_next ["_law_draws_here"] []) (g__law_next : mg "_law_next" = some (.ref f__law_next)) (G__law_next : FnOk P w K mg base CX0 1 f__law_next fd__law_next ["_law_draws_here"] (sp__law_next K)) (m_len : mg "len" = none) :
    FnOk P w K mg base CX0 3 f fd ["_law_draws_here", "_law_train"] (sp__law_deed K) := by
  refine F.ok sc__law_deed (fun vs H Q E h => ?_) (fun cdv A outer s H vs Q E hr h => ?_)
  ·
    obtain ⟨D, a, c, ws, rfl, _⟩ := h
    rfl
  ·
    obtain ⟨D, a, c, ws, rfl, hD, hc, _, ha, wl, q⟩ := h
    refine ⟨_, (pss_cons (ps_set (i := 2) sc__law_deed.nd rfl (.inl rfl) (pe_op op_mod (pe_call G__law_next (hr.mono (by decide)) (by rfl) g__law_next F__law_next.kp b__law_next .nil pass0 (pa_cons (pv 0) pa_nil)) (pe_callB call_len_seq (by rfl) m_len (by decide +kernel) (pa_cons (pv 1) pa_nil))))
      (pss_one (ps_ret (pe_tup (pa_cons (pv 2) (pa_cons (pe_ix (r := rIxL K) ix_list (pe_lst (pa_cons pe_int (pa_cons (pe_op op_sub pe_int pe_int) pa_nil))) (pe_op op_mod (pe_call G__law_next (hr.mono (by decide)) (by rfl) g__law_next F__law_next.kp b__law_next .nil pass0 (pa_cons (pv 0) pa_nil)) pe_int) (fun _ _ => rfl)) (pa_cons (pe_call G__law_far (hr.mono (by decide)) (by rfl) g__law_far F__law_far.kp b__law_far .nil pass0 (pa_cons (pv 0) (pa_cons (pe_op op_powB pe_int pe_int) pa_nil))) pa_nil))))))), ?_⟩
    refine w_st (σ' := [some (.ref D), some (.ref a), none]) rfl ?_
    walk_at "ct"
    refine ⟨D, c, rfl, hD, by omega, fun n1 _ _ => ?_⟩
    have d1 := Dr.step hD (c + 1)
    generalize upd H D _ = H1 at *
    walk_at "ct"
    refine ⟨a, ws, rfl, .inl (.of (d1.at hD ha)), ?_⟩
    walk_at "ct"
    refine w_mod (by omega) fun i i0 i1 => ?_
    walk_at "ct"
    refine ⟨len2 rfl, fun g1 ng1 => ?_⟩
    have u2 : Same H1 (upd H1 g1 (.lst [.int 1, .int (0 - 1)])) := same_upd ng1
    have hg1 : (upd H1 g1 (.lst [.int 1, .int (0 - 1)])) g1 = some (.lst [.int 1, .int (0 - 1)]) := upd_same
    generalize upd H1 g1 _ = H2 at *
    have d2 := d1.same u2
    walk_at "ct"
    refine ⟨D, c + 1, rfl, d2.2, by omega, fun n2 _ _ => ?_⟩
    have hg3 := (Dr.step d2.2 (c + 2)).at d2.2 hg1
    have d3 := d2.trans (Dr.step d2.2 (c + 2))
    generalize upd H2 D _ = H3 at *
    walk_at "ct"
    refine w_mod (by decide) fun r r0 r1 => ?_
    obtain ⟨w1, hw1, sw1⟩ : ∃ w1 : Int, atI [V.int 1, .int (0 - 1)] r = some (.int w1) ∧ Sign w1 := by
      have : r = 0 ∨ r = 1 := by omega
      rcases this with rfl | rfl
      · exact ⟨1, at0, .inl rfl⟩
      · exact ⟨-1, at1, .inr rfl⟩
    refine w_ixL (.of hg3) hw1 ?_
    walk_at "ct"
    refine w_rIv (.int (10 ^ 39)) ⟨by decide, by decide⟩ rfl ?_
    walk_at "ct"
    refine ⟨D, c + 2, _, rfl, d3.2, by omega, by decide, fun t c4 H4 d4 c4l t0 t1 => ?_⟩
    have d34 := d3.trans d4
    walk_at "ct"
    refine ⟨len2 rfl, fun g ng => ?_⟩
    walk_at "ct"
    obtain ⟨inn, rfl⟩ : ∃ n : Nat, i = n := ⟨i.toNat, by omega⟩
    obtain ⟨tn, rfl⟩ : ∃ n : Nat, t = n := ⟨t.toNat, by omega⟩
    exact q g ⟨inn, w1, tn⟩ c4 _ (d34.same (same_upd ng)) (by omega) (d34.free ng) upd_same (show inn < ws.length by omega) sw1 (show tn < 10 ^ 39 by omega)
abbrev S__law_net : Stmt := topS 36
theorem sc__law_net : FnScope ["_law_train", "_law_row", "_law_told", "_law_i", "_law_way", "_law_times"] ["_law_train", "_law_row"] (defScope S__law_net) := ⟨rfl, rfl, rfl, by decide +kernel, rfl, by decide +kernel, by decide +kernel⟩
def sp__law_net (K : PySem.W.Frag) : Sp := fun vs H Q _ => ∃ (a b : Addr) (n : Nat) (ws us : List V) (ds : List Deed), vs = [.ref a, .ref b] ∧ SqL K H a ws ∧ ws.length = n ∧ n ≤ 100 ∧ SqL K H b us ∧ DpAll K H us (ds.map Deed.data) ∧ ds.length ≤ 100 ∧ (∀ d ∈ ds, d.ok n ∧ d.t < 2 ^ 200) ∧ ∀ l H', Same H H' → H l = none → H' l = some (.lst ((List.range n).map fun j => V.int (netF ds j))) → Q (.ref l) H'
theorem ok__law_net {f : Addr} {fd : FuncData} (F : Fun K "_law_net" "_law_net" S__law_net f fd) (m_len : mg "len" = none) :
    FnOk P w K mg base CX0 1 f fd ["_law_train", "_law_row"] (sp__law_net K) := by
  refine F.ok sc__law_net (fun vs H Q E h => ?_) (fun cdv A outer s H vs Q E hr h => ?_)
  ·
    obtain ⟨a, b, n, ws, us, ds, rfl, _⟩ := h
    rfl
  ·
    obtain ⟨a, b, n, ws, us, ds, rfl, ha, wl, n100, hb, hd, dl, hds, q⟩ := h
    refine ⟨_, (pss_cons (ps_set (i := 2) sc__law_net.nd rfl (.inl rfl) (pe_op op_rep (pe_lst (pa_cons pe_int pa_nil)) (pe_callB call_len_seq (by rfl) m_len (by decide +kernel) (pa_cons (pv 0) pa_nil))))
      (pss_cons (ps_for PassesOwn.never rfl (pi_list (pv 1)) (pg_tup rfl (pgs_cons (pg_name (i := 3) sc__law_net.nd rfl (.inl rfl)) (pgs_cons (pg_name (i := 4) sc__law_net.nd rfl (.inl rfl)) (pgs_cons (pg_name (i := 5) sc__law_net.nd rfl (.inl rfl)) pgs_nil))))
      (pss_one (ps_asg (pe_op op_add (pe_ix (r := rIxL K) ix_list (pv 2) (pv 3) (fun _ _ => rfl)) (pe_op op_mulW (pv 4) (pv 5))) (pg_sub (pv 2) (pv 3) set_list))))
      (pss_one (ps_ret (pv 2))))), ?_⟩
    refine w_st (σ' := [some (.ref a), some (.ref b), none, none, none, none]) rfl ?_
    have ul : us.length = ds.length := by rw [dpAll_len hd, List.length_map]
    walk_at "ct"
    refine ⟨len2 rfl, fun z nz => ?_⟩
    have u1 : Same H (upd H z (.lst [.int 0])) := same_upd nz
    have hz : (upd H z (.lst [.int 0])) z = some (.lst [.int 0]) := upd_same
    generalize upd H z _ = H1 at *
    walk_at "ct"
    refine ⟨a, ws, rfl, .inl (u1.seq ha), ?_⟩
    refine ⟨z, _, _, rfl, rfl, hz, by omega, by omega, Nat.le_trans (show 1 * _ ≤ 100 by rw [Int.toNat_natCast]; omega) (by decide), fun l nl => ?_⟩
    rw [show (List.replicate ((ws.length : Int)).toNat [V.int 0]).flatten = (List.range n).map fun j => V.int (netF [] j) by
      rw [Int.toNat_natCast, wl]
      clear nl wl n100 hds q ha
      induction n with
      | zero => rfl
      | succ k ih => rw [List.replicate_succ', List.flatten_append, ih, List.range_succ, List.map_append]; rfl]
    have s2 : Same H1 (upd H1 l (.lst ((List.range n).map fun j => V.int (netF [] j)))) := same_upd nl
    have hl : (upd H1 l (.lst ((List.range n).map fun j => V.int (netF [] j)))) l = some (.lst ((List.range n).map fun j => V.int (netF [] j))) := upd_same
    generalize upd H1 l _ = H2 at *
    have nlH : H l = none := u1.free nl
    have s02 := u1.trans s2
    walk_at "ct"
    refine w_IL (s02.seq hb) ?_
    refine fb_list us (fun k σ G => ∃ (y3 y4 y5 : Option V), σ = [some (.ref a), some (.ref b), some (.ref l), y3, y4, y5] ∧ Same H G ∧ G l = some (.lst ((List.range n).map fun j => V.int (netF (ds.take k) j)))) ⟨none, none, none, rfl, s02, hl⟩ ?_ ?_ ?_
    · rintro k σ G _ ⟨y3, y4, y5, rfl, sG, _⟩
      exact sG.seq hb
    · rintro k x σ G hx ⟨y3, y4, y5, rfl, sG, hG⟩
      have hk : k < us.length := (List.getElem?_eq_some_iff.mp hx).1
      obtain ⟨d, hdk⟩ : ∃ d, ds[k]? = some d := ⟨_, List.getElem?_eq_getElem (by omega)⟩
      obtain ⟨x', hx', hdp⟩ := dpAll_get hd (i := k) (d := d.data) (by rw [List.getElem?_map, hdk]; rfl)
      cases Option.some.inj (hx.symm.trans hx')
      obtain ⟨dok, dt⟩ := hds d (List.mem_of_getElem? hdk)
      obtain ⟨g, rfl, hg⟩ := tupD_inv (s := [(d.i : Int), d.w, (d.t : Int)]) (dp_same sG hdp)
      have hg : SqT K G g [.int (d.i : Int), .int d.w, .int (d.t : Int)] := hg
      refine w_gtup hg rfl ?_
      walk_at "ct"
      have di : ((List.range n).map fun j => V.int (netF (ds.take k) j))[d.i]? = some (.int (netF (ds.take k) d.i)) := by
        rw [List.getElem?_map, List.getElem?_range dok.1]
        rfl
      refine w_ixL (.of hG) (at_of (j := d.i) rfl di) ?_
      walk_at "ct"
      refine w_rIv (.int (d.w * d.t)) (wide_mul (i := d.w) (j := (d.t : Int)) (a := 10) (b := 200) (by rcases dok.2 with e | e <;> rw [e] <;> decide) (by omega) (by decide) (by decide) (by decide)) rfl ?_
      walk_at "ct"
      refine w_setL hG (ix_at (j := d.i) rfl (by rw [List.length_map, List.length_range]; exact dok.1)) ?_
      refine ⟨_, _, _, rfl, same_new sG nlH, ?_⟩
      rw [upd_same]
      congr 2
      have dt2 : ds.take (k + 1) = ds.take k ++ [d] := by rw [List.take_add_one, hdk]; rfl
      refine List.ext_getElem? fun j => ?_
      rw [List.getElem?_set, List.length_map, List.length_range]
      rcases Nat.lt_or_ge j n with jn | jn
      · rw [List.getElem?_map, List.getElem?_range jn, List.getElem?_map, List.getElem?_range jn, dt2]
        by_cases e : d.i = j
        · subst e
          rw [if_pos rfl, if_pos jn]
          show some (V.int (netF (ds.take k) d.i + d.w * d.t)) = some (V.int (netF (ds.take k ++ [d]) d.i))
          rw [netF_app, show netF [d] d.i = d.w * d.t by show (if d.i = d.i then d.w * (d.t : Int) else 0) + 0 = _; rw [if_pos rfl, Int.add_zero]]
        · rw [if_neg e]
          show some (V.int (netF (ds.take k) j)) = some (V.int (netF (ds.take k ++ [d]) j))
          rw [netF_app, show netF [d] j = 0 by show (if j = d.i then d.w * (d.t : Int) else 0) + 0 = _; rw [if_neg (fun z => e z.symm), Int.add_zero], Int.add_zero]
      · rw [if_neg (by have : d.i < n := dok.1; omega), List.getElem?_eq_none (by rw [List.length_map, List.length_range]; exact jn), List.getElem?_eq_none (by rw [List.length_map, List.length_range]; exact jn)]
    · rintro σ G ⟨y3, y4, y5, rfl, sG, hG⟩
      rw [List.take_of_length_le (by omega)] at hG
      walk_at "ct"
      exact q l G sG nlH hG
abbrev S__law_due : Stmt := topS 37
theorem sc__law_due : FnScope ["_law_wheels", "_law_stand", "_law_net_here", "_law_many", "_law_told", "_law_carry", "_law_part", "_law_place", "_law_number", "_law_behind_here", "_law_mark"] ["_law_wheels", "_law_stand", "_law_net_here", "_law_many"] (defScope S__law_due) := ⟨rfl, rfl, rfl, by decide +kernel, rfl, by decide +kernel, by decide +kernel⟩
def sp__law_due (K : PySem.W.Frag) : Sp := fun vs H Q _ => ∃ (w0 t b : Addr) (ws : List Part) (xs ns : List Int) (f : Nat → Int) (many : Int), vs = [.ref w0, .ref t, .ref b, .int many] ∧ TrainAt K H w0 ws ∧ Wheels ws ∧ (∀ p ∈ ws, p.ok) ∧ ws.length ≤ 20 ∧ SqT K H t (xs.map V.int) ∧ ws.length ≤ xs.length ∧ (∀ x ∈ xs, x.natAbs < 2 ^ 200) ∧ SqL K H b (ns.map V.int) ∧ ws.length ≤ ns.length ∧ (∀ x ∈ ns, x.natAbs < 2 ^ 210) ∧ many.natAbs < 2 ^ 110 ∧ (∀ j, j < ws.length → ∃ n, ns[j]? = some n ∧ f j = n * many) ∧
  ∀ u g H', Same H H' → H' u = some (.tup ((dueF ws xs f 0 0).1.map V.int)) → H' g = some (.tup [.ref u, .int (dueF ws xs f 0 0).2]) → Q (.ref g) H'
theorem ok__law_due {f : Addr} {fd : FuncData} (F : Fun K "_law_due" "_law_due" S__law_due f fd) (m_zip : mg "zip" = none) (m_tuple : mg "tuple" = none) :
    FnOk P w K mg base CX0 1 f fd ["_law_wheels", "_law_stand", "_law_net_here", "_law_many"] (sp__law_due K) := by
  refine F.ok sc__law_due (fun vs H Q E h => ?_) (fun cdv A outer s H vs Q E hr h => ?_)
  ·
    obtain ⟨w0, t, b, ws, xs, ns, f, many, rfl, _⟩ := h
    rfl
  ·
    obtain ⟨w0, t, b, ws, xs, ns, f, many, rfl, hT, hw, hok, wl, ht, xl, xb, hb, nl, nb, mb, hf, q⟩ := h
    refine ⟨_, (pss_cons (ps_set (i := 4) sc__law_due.nd rfl (.inl rfl) (pe_lst pa_nil))
      (pss_cons (ps_set (i := 5) sc__law_due.nd rfl (.inl rfl) pe_int)
      (pss_cons (ps_for PassesOwn.never rfl (pi_zipM3 (by rfl) m_zip (pa_cons (pv 0) (pa_cons (pv 1) (pa_cons (pv 2) pa_nil)))) (pg_tup rfl (pgs_cons (pg_name (i := 6) sc__law_due.nd rfl (.inl rfl)) (pgs_cons (pg_name (i := 7) sc__law_due.nd rfl (.inl rfl)) (pgs_cons (pg_name (i := 8) sc__law_due.nd rfl (.inl rfl)) pgs_nil))))
      (pss_cons (ps_set (i := 9) sc__law_due.nd rfl (.inl rfl) (pe_op op_add (pe_op op_add (pv 7) (pe_op op_mulW (pv 8) (pv 3))) (pv 5)))
      (pss_cons (ps_set (i := 5) sc__law_due.nd rfl (.inl rfl) pe_int)
      (pss_cons (ps_for PassesOwn.never rfl (pi_tup (pe_ix (r := rIxT K) ix_tup (pv 6) pe_int (fun _ _ => rfl))) (pg_name (i := 10) sc__law_due.nd rfl (.inl rfl))
      (pss_one (ps_set (i := 5) sc__law_due.nd rfl (.inl rfl) (pe_op op_sub (pe_op op_add (pv 5) (pe_op op_fdivW (pe_op op_sub (pv 9) (pv 10)) (pe_ix (r := rIxT K) ix_tup (pv 6) pe_int (fun _ _ => rfl)))) (pe_op op_fdivW (pe_op op_sub (pv 7) (pv 10)) (pe_ix (r := rIxT K) ix_tup (pv 6) pe_int (fun _ _ => rfl)))))))
      (pss_one (ps_expr (pe_bm PySem.F.plainAttrs_list PySem.F.slot_list_append PySem.F.type_list_append mt_append (pv 4) (pa_cons (pe_op op_mod (pv 9) (pe_ix (r := rIxT K) ix_tup (pv 6) pe_int (fun _ _ => rfl))) pa_nil))))))))
      (pss_one (ps_ret (pe_tup (pa_cons (pe_callTy call_tuple_of (by rfl) m_tuple (by decide +kernel) (pa_cons (pv 4) pa_nil)) (pa_cons (pv 5) pa_nil)))))))), ?_⟩
    refine w_st (σ' := [some (.ref w0), some (.ref t), some (.ref b), some (.int many), none, none, none, none, none, none, none]) rfl ?_
    obtain ⟨vs, hv, hd⟩ := id hT
    have vl : vs.length = ws.length := by rw [dpAll_len hd, List.length_map]
    walk_at "ct"
    refine ⟨len2 rfl, fun l nl0 => ?_⟩
    have u1 : Same H (upd H l (.lst [])) := same_upd nl0
    have hl : (upd H l (.lst [])) l = some (.lst []) := upd_same
    generalize upd H l _ = H1 at *
    walk_at "ct"
    refine w_im3 ?_
    walk_at "ct"
    refine w_IM3 (u1.seq hv) (Same.tup u1 ht) (u1.seq hb) ?_
    refine fb_zipM3 vs (xs.map V.int) (ns.map V.int) (by rw [List.length_map]; omega) (by rw [List.length_map]; omega) (fun k σ G => ∃ (y6 y7 y8 y9 y10 : Option V) (c : Int) (acc : List Int), σ = [some (.ref w0), some (.ref t), some (.ref b), some (.int many), some (.ref l), some (.int c), y6, y7, y8, y9, y10] ∧ Same H G ∧ G l = some (.lst (acc.map V.int)) ∧ acc.length = k ∧ dueF ws xs f 0 0 = (acc ++ (dueF (ws.drop k) (xs.drop k) f k c).1, (dueF (ws.drop k) (xs.drop k) f k c).2)) ⟨none, none, none, none, none, 0, [], rfl, u1, hl, rfl, rfl⟩ ?_ ?_ ?_
    · rintro k σ G _ ⟨y6, y7, y8, y9, y10, c, acc, rfl, sG, _⟩
      exact ⟨sG.seq hv, Same.tup sG ht, sG.seq hb⟩
    · rintro k x y z Tp σ G hx hy hz ⟨y6, y7, y8, y9, y10, c, acc, rfl, sG, hG, al, eq⟩ nT
      have hk : k < ws.length := by have := (List.getElem?_eq_some_iff.mp hx).1; omega
      obtain ⟨p, hp⟩ : ∃ p, ws[k]? = some p := ⟨_, List.getElem?_eq_getElem hk⟩
      obtain ⟨x', hx', hdp⟩ := dpAll_get hd (i := k) (d := p.data) (by rw [List.getElem?_map, hp]; rfl)
      cases Option.some.inj (hx.symm.trans hx')
      have pw := hw p (List.mem_of_getElem? hp)
      have pok := hok p (List.mem_of_getElem? hp)
      obtain ⟨zz, ms, rfl⟩ : ∃ zz ms, p = .wheel zz ms := by
        cases p with
        | wheel zz ms => exact ⟨zz, ms, rfl⟩
        | click => cases pw
        | rocker => cases pw
        | spring _ => cases pw
      obtain ⟨x0, hx0, rfl⟩ : ∃ x0 : Int, xs[k]? = some x0 ∧ y = .int x0 := by
        rw [List.getElem?_map] at hy
        cases e : xs[k]? with
        | none => rw [e] at hy; cases hy
        | some c => rw [e] at hy; exact ⟨c, rfl, (Option.some.inj hy).symm⟩
      obtain ⟨n0, hn0, rfl⟩ : ∃ n0 : Int, ns[k]? = some n0 ∧ z = .int n0 := by
        rw [List.getElem?_map] at hz
        cases e : ns[k]? with
        | none => rw [e] at hz; cases hz
        | some c => rw [e] at hz; exact ⟨c, rfl, (Option.some.inj hz).symm⟩
      obtain ⟨n1, hn1, fk⟩ := hf k hk
      cases Option.some.inj (hn0.symm.trans hn1)
      have z1 : 1 ≤ zz := pok.1
      have z2 : zz < 2 ^ 200 := pok.2.1
      have sT : Same G (upd G Tp (.tup [x, .int x0, .int n0])) := same_upd nT
      have hTp : (upd G Tp (.tup [x, .int x0, .int n0])) Tp = some (.tup [x, .int x0, .int n0]) := upd_same
      generalize upd G Tp _ = G1 at *
      have s1 := sG.trans sT
      obtain ⟨ga, gm, rfl, hga, hgm⟩ := wheel_inv (dp_same s1 hdp)
      refine w_gtup (.of hTp) rfl ?_
      walk_at "ct"
      refine w_rIv (.int (n0 * many)) (wide_mul (a := 210) (b := 110) (nb n0 (List.mem_of_getElem? hn0)) mb (by decide) (by decide) (by decide)) rfl ?_
      walk_at "ct"
      refine w_IT hgm ?_
      refine fb_tup (ms.map V.int) (fun i σ J => ∃ y10 : Option V, σ = [some (.ref w0), some (.ref t), some (.ref b), some (.int many), some (.ref l), some (.int (wsum zz (ms.take i) (x0 + n0 * many + c) - wsum zz (ms.take i) x0)), some (.ref ga), some (.int x0), some (.int n0), some (.int (x0 + n0 * many + c)), y10] ∧ Same G1 J) ⟨_, by rfl, Same.refl _⟩ ?_ ?_ ?_
      · rintro i σ J _ ⟨y10, rfl, sJ⟩
        exact Same.tup sJ hgm
      · rintro i v σ J hv' ⟨y10, rfl, sJ⟩
        obtain ⟨m, hm, rfl⟩ : ∃ m : Int, ms[i]? = some m ∧ v = .int m := by
          rw [List.getElem?_map] at hv'
          cases e : ms[i]? with
          | none => rw [e] at hv'; cases hv'
          | some c => rw [e] at hv'; exact ⟨c, rfl, (Option.some.inj hv').symm⟩
        have hgaJ := Same.tup sJ hga
        walk_at "ct"
        refine w_rIv (.int ((x0 + n0 * many + c - m) / zz)) (div_ok (by omega) (by omega)) rfl ?_
        walk_at "ct"
        refine w_rIv (.int ((x0 - m) / zz)) (div_ok (by omega) (by omega)) rfl ?_
        walk_at "ct"
        refine ⟨some (.int m), ?_, sJ⟩
        rw [List.take_add_one, hm, show ms.take i ++ (some m).toList = ms.take i ++ [m] from rfl, wsum_app, wsum_app]
        rw [show ∀ A B C D : Int, C - D + A - B = C + A - (D + B) from fun A B C D => by omega]
      · rintro σ J ⟨y10, rfl, sJ⟩
        rw [List.length_map, List.take_length]
        have hGJ := (sT.trans sJ) _ _ hG
        have hgaJ := Same.tup sJ hga
        walk_at "ct"
        refine ⟨ty_list hGJ, ?_⟩
        walk_at "ct"
        refine w_rIv (.int ((x0 + n0 * many + c) % zz)) (by omega) rfl ?_
        walk_at "ct"
        refine w_append hGJ (by rw [List.length_map]; exact small1000 (by omega)) ?_
        walk_at "ct"
        refine ⟨_, _, _, _, _, wsum zz ms (x0 + n0 * many + c) - wsum zz ms x0, acc ++ [(x0 + n0 * many + c) % zz], rfl, same_new (s1.trans sJ) nl0, by rw [upd_same, List.map_append]; rfl, by rw [List.length_append, al]; rfl, ?_⟩
        have ew : ws.drop k = .wheel zz ms :: ws.drop (k + 1) := by
          rw [List.drop_eq_getElem_cons hk]
          congr 1
          exact (List.getElem?_eq_some_iff.mp hp).2
        have ex : xs.drop k = x0 :: xs.drop (k + 1) := by
          rw [List.drop_eq_getElem_cons (by omega)]
          congr 1
          exact (List.getElem?_eq_some_iff.mp hx0).2
        rw [ew, ex, dueF_cons, fk] at eq
        rw [eq, List.append_assoc]
        rfl
    · rintro σ G ⟨y6, y7, y8, y9, y10, c, acc, rfl, sG, hG, al, eq⟩
      rw [vl, List.drop_length] at eq
      have e1 : (dueF ([] : List Part) (xs.drop ws.length) f ws.length c) = ([], c) := rfl
      rw [e1, List.append_nil] at eq
      walk_at "ct"
      refine ⟨l, _, rfl, .inl ⟨.of hG, fun u nu => ?_⟩⟩
      have u3 : Same G (upd G u (.tup (acc.map V.int))) := same_upd nu
      have hu : (upd G u (.tup (acc.map V.int))) u = some (.tup (acc.map V.int)) := upd_same
      generalize upd G u _ = G3 at *
      walk_at "ct"
      refine ⟨len2 rfl, fun g ng => ?_⟩
      walk_at "ct"
      rw [eq] at q
      exact q u g _ ((sG.trans u3).trans (same_upd ng)) ((same_upd ng) _ _ hu) upd_same
abbrev S__law_rows : Stmt := topS 38
theorem sc__law_rows : FnScope ["_law_draws_here", "_law_train", "_law_row", "_law_net_here", "_law_i", "_law_gathered", "_law_halves", "_law_way", "_law_times", "_law_first", "_law_half", "_law_there", "_law_number"] ["_law_draws_here", "_law_train", "_law_row"] (defScope S__law_rows) := ⟨rfl, rfl, rfl, by decide +kernel, rfl, by decide +kernel, by decide +kernel⟩
def sp__law_rows (K : PySem.W.Frag) : Sp := fun vs H Q _ => ∃ (D a b : Addr) (c n : Nat) (tv rv : List V) (ds : List Deed), vs = [.ref D, .ref a, .ref b] ∧ H D = some (DrO D c) ∧ c ≤ 870000 ∧ H a = some (.lst tv) ∧ tv.length = n ∧ 1 ≤ n ∧ n ≤ 10 ∧ H b = some (.lst rv) ∧ DpAll K H rv (ds.map Deed.data) ∧ ds.length ≤ 8 ∧ (∀ d ∈ ds, d.ok n ∧ d.t < 10 ^ 39) ∧
  ∀ (l : Addr) (os : List Addr) c' H', Dr D c' H H' → c' ≤ c + 300 → H' l = some (.lst (os.map V.ref)) → os.length = 7 → (∀ o ∈ os, RowOf K H' o n ds) → Q (.ref l) H'
theorem ok__law_rows {f : Addr} {fd : FuncData} {f__law_next : Addr} {fd__law_next : FuncData} {f__law_deed : Addr} {fd__law_deed : FuncData} {f__law_far : Addr} {fd__law_far : FuncData} {f__law_net : Addr} {fd__law_net : FuncData} (F : Fun K "_law_rows" "_law_rows" S__law_rows f fd)
    (F__law_next : Fun K "_law_next" "_law_next" S__law_next f__law_next fd__law_next) (b__law_next : Binds K fd__law_next ["_law_draws_here"] []) (g__law_next : mg "_law_next" = some (.ref f__law_next)) (G__law_next : FnOk P w K mg base CX0 1 f__law_next fd__law_next ["_law_draws_here"] (sp__law_next K))
    (F__law_deed : Fun K "_law_deed" "_law_deed" S__law_deed f__law_deed fd__law_deed) (b__law_deed : Binds K fd__law_deed ["_law_draws_here", "_law_train"] []) (g__law_deed : mg "_law_deed" = some (.ref f__law_deed)) (G__law_deed : FnOk P w K mg base CX0 3 f__law_deed fd__law_deed ["_law_draws_here", "_law_train"] (sp__law_deed K))
    (F__law_far : Fun K "_law_far" "_law_far" S__law_far f__law_far fd__law_far) (b__law_far : Binds K fd__law_far ["_law_draws_here", "_law_most"] []) (g__law_far : mg "_law_far" = some (.ref f__law_far)) (G__law_far : FnOk P w K mg base CX0 2 f__law_far fd__law_far ["_law_draws_here", "_law_most"] (sp__law_far K))
    (F__law_net : Fun K "_law_net" "_law_net" S__law_net f__law_net fd__law_net) (b__law_net : Binds K fd__law_net ["_law_train", "_law_row"] []) (g__law_net : mg "_law_net" = some (.ref f__law_net)) (G__law_net : FnOk P w K mg base CX0 1 f__law_net fd__law_net ["_law_train", "_law_row"] (sp__law_net K)) (m_list : mg "list" = none) (m_sorted : mg "sorted" = none) (m_abs : mg "abs" = none) (m_enumerate : mg "enumerate" = none) (m_int : mg "int" = none) (m_len : mg "len" = none) :
    FnOk P w K mg base CX0 4 f fd ["_law_draws_here", "_law_train", "_law_row"] (sp__law_rows K) := by
  refine F.ok sc__law_rows (fun vs H Q E h => ?_) (fun cdv A outer s H vs Q E hr h => ?_)
  ·
    obtain ⟨D, a, b, c, n, tv, rv, ds, rfl, _⟩ := h
    rfl
  ·
    obtain ⟨D, a, b, c, n, tv, rv, ds, rfl, hD, hc, ha, tl, n1, n10, hb, hrd, dl, hds, q⟩ := h
    refine ⟨_, (pss_cons (ps_set (i := 3) sc__law_rows.nd rfl (.inl rfl) (pe_call G__law_net (hr.mono (by decide)) (by rfl) g__law_net F__law_net.kp b__law_net .nil pass0 (pa_cons (pv 1) (pa_cons (pv 2) pa_nil))))
      (pss_cons (ps_setLc (i := 5) (own := [("_law_i", 4), ("_law_number", 12)]) (g := gTup K 2 (gCons (gName 4) (gCons (gName 12) gNil)))  rfl sc__law_rows.nd rfl rfl (sw_true rfl rfl rfl (by decide +kernel)) (pi_enum (by rfl) m_enumerate (pa_cons (pv 3) pa_nil)) (blkOk_by (own := [("_law_i", 4), ("_law_number", 12)]) (N := ["_law_draws_here", "_law_train", "_law_row", "_law_net_here", "_law_i", "_law_gathered", "_law_halves", "_law_way", "_law_times", "_law_first", "_law_half", "_law_there", "_law_number"]) (sc := defScope S__law_rows) (by decide +kernel)) (fun _ _ _ _ _ => pg_tup rfl (pgs_cons (pg_name (i := 4) sc__law_rows.nd rfl (Or.inl rfl)) (pgs_cons (pg_name (i := 12) sc__law_rows.nd rfl (Or.inl rfl)) pgs_nil))) (fun _ _ _ _ _ => (pts_one (pt_cmpR op_ne (pv 12) pe_int (nomark _)))) (fun _ _ _ _ _ => (pe_tup (pa_cons (pv 4) (pa_cons (pe_ix (r := rIxL K) ix_list (pe_lst (pa_cons pe_int (pa_cons (pe_op op_sub pe_int pe_int) pa_nil))) (pe_callTy call_int1 (by rfl) m_int (by decide +kernel) (pa_cons (pe_cmpR op_lt (pv 12) pe_int (nomark _)) pa_nil)) (fun _ _ => rfl)) (pa_cons (pe_callB call_abs (by rfl) m_abs (by decide +kernel) (pa_cons (pv 12) pa_nil)) pa_nil))))))
      (pss_cons (ps_set (i := 6) sc__law_rows.nd rfl (.inl rfl) (pe_lst pa_nil))
      (pss_cons (ps_for PassesOwn.never rfl (pi_list (pv 2)) (pg_tup rfl (pgs_cons (pg_name (i := 4) sc__law_rows.nd rfl (.inl rfl)) (pgs_cons (pg_name (i := 7) sc__law_rows.nd rfl (.inl rfl)) (pgs_cons (pg_name (i := 8) sc__law_rows.nd rfl (.inl rfl)) pgs_nil))))
      (pss_cons (ps_set (i := 9) sc__law_rows.nd rfl (.inl rfl) (pe_call G__law_far (hr.mono (by decide)) (by rfl) g__law_far F__law_far.kp b__law_far .nil pass0 (pa_cons (pv 0) (pa_cons (pe_op op_add (pv 8) pe_int) pa_nil))))
      (pss_one (ps_for PassesOwn.never rfl (pi_list (pe_lst (pa_cons (pv 9) (pa_cons (pe_op op_sub (pv 8) (pv 9)) pa_nil)))) (pg_name (i := 10) sc__law_rows.nd rfl (.inl rfl))
      (pss_one (ps_expr (pe_bm PySem.F.plainAttrs_list PySem.F.slot_list_insert PySem.F.type_list_insert mt_insert (pv 6) (pa_cons (pe_op op_mod (pe_call G__law_next (hr.mono (by decide)) (by rfl) g__law_next F__law_next.kp b__law_next .nil pass0 (pa_cons (pv 0) pa_nil)) (pe_op op_add (pe_callB call_len_seq (by rfl) m_len (by decide +kernel) (pa_cons (pv 6) pa_nil)) pe_int)) (pa_cons (pe_tup (pa_cons (pv 4) (pa_cons (pv 7) (pa_cons (pv 10) pa_nil)))) pa_nil)))))))))
      (pss_cons (ps_asg (pe_call G__law_deed (hr.mono (by decide)) (by rfl) g__law_deed F__law_deed.kp b__law_deed .nil pass0 (pa_cons (pv 0) (pa_cons (pv 1) pa_nil))) (pg_tup rfl (pgs_cons (pg_name (i := 4) sc__law_rows.nd rfl (.inl rfl)) (pgs_cons (pg_name (i := 7) sc__law_rows.nd rfl (.inl rfl)) (pgs_cons (pg_name (i := 8) sc__law_rows.nd rfl (.inl rfl)) pgs_nil)))))
      (pss_cons (ps_set (i := 11) sc__law_rows.nd rfl (.inl rfl) (pe_callTy call_list_of (by rfl) m_list (by decide +kernel) (pa_cons (pv 2) pa_nil)))
      (pss_cons (ps_expr (pe_bm PySem.F.plainAttrs_list PySem.F.slot_list_insert PySem.F.type_list_insert mt_insert (pv 11) (pa_cons (pe_op op_mod (pe_call G__law_next (hr.mono (by decide)) (by rfl) g__law_next F__law_next.kp b__law_next .nil pass0 (pa_cons (pv 0) pa_nil)) (pe_op op_add (pe_callB call_len_seq (by rfl) m_len (by decide +kernel) (pa_cons (pv 11) pa_nil)) pe_int)) (pa_cons (pe_tup (pa_cons (pv 4) (pa_cons (pv 7) (pa_cons (pv 8) pa_nil)))) pa_nil))))
      (pss_cons (ps_expr (pe_bm PySem.F.plainAttrs_list PySem.F.slot_list_insert PySem.F.type_list_insert mt_insert (pv 11) (pa_cons (pe_op op_mod (pe_call G__law_next (hr.mono (by decide)) (by rfl) g__law_next F__law_next.kp b__law_next .nil pass0 (pa_cons (pv 0) pa_nil)) (pe_op op_add (pe_callB call_len_seq (by rfl) m_len (by decide +kernel) (pa_cons (pv 11) pa_nil)) pe_int)) (pa_cons (pe_tup (pa_cons (pv 4) (pa_cons (pe_op op_sub pe_int (pv 7)) (pa_cons (pv 8) pa_nil)))) pa_nil))))
      (pss_one (ps_ret (pe_lst (pa_cons (pv 2) (pa_cons (pe_revL (pv 2)) (pa_cons (pe_callB (r := rSortAny K) (cr_sortAny (units65 hr)) (by rfl) m_sorted (by decide +kernel) (pa_cons (pv 2) pa_nil)) (pa_cons (pv 5) (pa_cons (pe_revL (pv 5)) (pa_cons (pv 6) (pa_cons (pv 11) pa_nil)))))))))))))))))), ?_⟩
    refine w_st (σ' := [some (.ref D), some (.ref a), some (.ref b), none, none, none, none, none, none, none, none, none, none]) rfl ?_
    have rl : rv.length = ds.length := by rw [dpAll_len hrd, List.length_map]
    walk_at "ct"
    refine ⟨a, b, n, tv, rv, ds, rfl, .of ha, tl, by omega, .of hb, hrd, by omega, fun d hd => ⟨(hds d hd).1, Nat.lt_trans (hds d hd).2 (by decide)⟩, fun l G1 s1 nl hl => ?_⟩
    walk_at "ct"
    refine w_IE (.of hl) ?_
    refine lb_enum ((List.range n).map fun j => V.int (netF ds j)) (fun A k G => ∃ (gv : List V) (es : List Deed), Same H G ∧ G A = some (.lst gv) ∧ G l = some (.lst ((List.range n).map fun j => V.int (netF ds j))) ∧ DpAll K G gv (es.map Deed.data) ∧ es.length ≤ k ∧ (∀ d ∈ es, d.ok n ∧ d.t < 2 ^ 150) ∧ ∀ j, netF es j = if j < k then netF ds j else 0) (fun A nA => ⟨[], [], s1.trans (same_upd nA), upd_same, (same_upd nA) _ _ hl, .nil, Nat.le_refl _, (fun _ h => nomatch h), fun j => by rw [if_neg (by omega)]; rfl⟩) ?_ ?_ ?_
    · rintro A nA k G _ ⟨gv, es, sG, hA, hlG, _⟩
      exact .of hlG
    · rintro A nA k v T G hv ⟨gv, es, sG, hA, hlG, hgv, el, hes, hnet⟩ nT
      have kn : k < n := by
        have := (List.getElem?_eq_some_iff.mp hv).1
        rw [List.length_map, List.length_range] at this
        exact this
      rw [List.getElem?_map, List.getElem?_range kn] at hv
      cases Option.some.inj hv
      have nAH : H A = none := s1.free nA
      have gl : gv.length = es.length := by rw [dpAll_len hgv, List.length_map]
      have sT : Same G (upd G T (.tup [.int (k : Int), .int (netF ds k)])) := same_upd nT
      have hT : (upd G T (.tup [.int (k : Int), .int (netF ds k)])) T = some (.tup [.int (k : Int), .int (netF ds k)]) := upd_same
      generalize upd G T _ = G2 at *
      refine w_gtup (.of hT) rfl ?_
      walk_at "ct"
      refine ⟨rfl, ?_⟩
      walk_at "ct"
      have s02 := sG.trans sT
      have net1 : ∀ j, netF ds k = 0 → netF es j = if j < k + 1 then netF ds j else 0 := fun j e => by
        rw [hnet j]
        by_cases jk : j = k
        · subst jk
          rw [if_neg (by omega), if_pos (by omega), e]
        · by_cases lt : j < k
          · rw [if_pos lt, if_pos (by omega)]
          · rw [if_neg lt, if_neg (by omega)]
      by_cases z : netF ds k = 0
      · rw [if_neg (by simp [z])]
        exact ⟨gv, es, s02, sT _ _ hA, sT _ _ hlG, dpAll_same sT hgv, by omega, hes, fun j => net1 j z⟩
      · rw [if_pos (by simp [z])]
        walk_at "ct"
        refine ⟨len2 rfl, fun g1 ng1 => ?_⟩
        have v1 : Same G2 (upd G2 g1 (.lst [.int 1, .int (0 - 1)])) := same_upd ng1
        have hg1 : (upd G2 g1 (.lst [.int 1, .int (0 - 1)])) g1 = some (.lst [.int 1, .int (0 - 1)]) := upd_same
        generalize upd G2 g1 _ = G3 at *
        walk_at "ct"
        refine .inr ⟨_, rfl, ?_⟩
        obtain ⟨w1, hw1, sw1, ew1⟩ : ∃ w1 : Int, atI [V.int 1, .int (0 - 1)] (if decide (netF ds k < 0) = true then 1 else 0) = some (.int w1) ∧ Sign w1 ∧ w1 * ((netF ds k).natAbs : Int) = netF ds k := by
          by_cases ng : netF ds k < 0
          · rw [if_pos (by simpa using ng)]
            exact ⟨-1, at1, .inr rfl, by omega⟩
          · rw [if_neg (by simpa using ng)]
            exact ⟨1, at0, .inl rfl, by omega⟩
        refine w_ixL (.of hg1) hw1 ?_
        walk_at "ct"
        refine ⟨_, rfl, ?_⟩
        rw [show (if netF ds k < 0 then -netF ds k else netF ds k) = ((netF ds k).natAbs : Int) by split <;> omega]
        walk_at "ct"
        refine ⟨len2 rfl, fun g2 ng2 => ?_⟩
        have v2 : Same G3 (upd G3 g2 (.tup [.int (k : Int), .int w1, .int ((netF ds k).natAbs : Int)])) := same_upd ng2
        have hg2 : (upd G3 g2 (.tup [.int (k : Int), .int w1, .int ((netF ds k).natAbs : Int)])) g2 = some (.tup [.int (k : Int), .int w1, .int ((netF ds k).natAbs : Int)]) := upd_same
        generalize upd G3 g2 _ = G4 at *
        have s24 := sT.trans (v1.trans v2)
        have hA4 := s24 _ _ hA
        have tb := netF_abs (B := 10 ^ 39) k (ds := ds) fun d hd => ⟨(hds d hd).1.2, Nat.le_of_lt (hds d hd).2⟩
        have tb2 : (netF ds k).natAbs < 2 ^ 150 := Nat.lt_of_le_of_lt (Nat.le_trans tb (Nat.mul_le_mul_right _ dl)) (by decide)
        refine ⟨gv, hA4, small1000 (by omega), gv ++ [.ref g2], es ++ [⟨k, w1, (netF ds k).natAbs⟩], same_new (sG.trans s24) nAH, upd_same, ?_, ?_, ?_, fun d hd => ?_, fun j => ?_⟩
        · rw [upd_ne (fun e => by rw [← e, hl] at nA; cases nA)]
          exact s24 _ _ hlG
        · rw [List.map_append]
          exact dpAll_app (deeds_upd hA4 _ (dpAll_same s24 hgv)) (deeds_upd hA4 [⟨k, w1, (netF ds k).natAbs⟩] (.cons (deed_dpN hg2) .nil))
        · rw [List.length_append]
          show es.length + 1 ≤ k + 1
          omega
        · rcases List.mem_append.mp hd with hd | hd
          · exact hes d hd
          · rw [List.mem_singleton.mp hd]
            exact ⟨⟨kn, sw1⟩, tb2⟩
        · rw [netF_app, netF_one, hnet j]
          show _ + (if j = k then w1 * ((netF ds k).natAbs : Int) else 0) = _
          by_cases jk : j = k
          · subst jk
            rw [if_neg (by omega), if_pos rfl, if_pos (by omega), ew1, Int.zero_add]
          · rw [if_neg jk, Int.add_zero]
            by_cases lt : j < k
            · rw [if_pos lt, if_pos (by omega)]
            · rw [if_neg lt, if_neg (by omega)]
    rintro A nA G2 ⟨gv, es, sG2, hA, _, hgv, el, hes, hnet⟩
    rw [List.length_map, List.length_range] at el hnet
    have hnet : ∀ j, netF es j = netF ds j := fun j => by
      rw [hnet j]
      split
      · rfl
      · exact (netF_out (by omega) fun d hd => (hds d hd).1.1).symm
    have dA := (Dr.refl hD).same sG2
    clear s1 hl nl nA
    walk_at "ct"
    refine ⟨len2 rfl, fun B nB => ?_⟩
    have u3 : Same G2 (upd G2 B (.lst [])) := same_upd nB
    have hB : (upd G2 B (.lst [])) B = some (.lst []) := upd_same
    generalize upd G2 B _ = G3 at *
    have dB := dA.same u3
    have nBH : H B = none := sG2.free nB
    walk_at "ct"
    refine w_IL (.of (dB.at hD hb)) ?_
    refine fb_list rv (fun k σ G => ∃ (y4 y7 y8 y9 y10 : Option V) (cG : Nat) (hv : List V) (hs : List Deed), σ = [some (.ref D), some (.ref a), some (.ref b), some (.ref l), y4, some (.ref A), some (.ref B), y7, y8, y9, y10, none, none] ∧ Dr D cG G2 G ∧ cG ≤ c + 11 * k ∧ G B = some (.lst hv) ∧ DpAll K G hv (hs.map Deed.data) ∧ hs.length = 2 * k ∧ (∀ d ∈ hs, d.ok n ∧ d.t < 2 ^ 150) ∧ ∀ j, netF hs j = netF (ds.take k) j) ⟨none, none, none, none, none, c, [], [], rfl, (Dr.refl dA.2).same u3, by omega, hB, .nil, rfl, (fun _ h => nomatch h), fun _ => rfl⟩ ?_ ?_ ?_
    · rintro k σ G _ ⟨y4, y7, y8, y9, y10, cG, hv, hs, rfl, dG, _⟩
      exact .of (dG.at dA.2 (dA.at hD hb))
    · rintro k x σ G hx ⟨y4, y7, y8, y9, y10, cG, hv, hs, rfl, dG, cGl, hG, hhv, hsl, hhs, hhn⟩
      have hk : k < rv.length := (List.getElem?_eq_some_iff.mp hx).1
      obtain ⟨d, hdk⟩ : ∃ d, ds[k]? = some d := ⟨_, List.getElem?_eq_getElem (by omega)⟩
      have dm := List.mem_of_getElem? hdk
      obtain ⟨x', hx', hdp⟩ := dpAll_get (dG.all dA.2 (dA.all hD hrd)) (i := k) (d := d.data) (by rw [List.getElem?_map, hdk]; rfl)
      cases Option.some.inj (hx.symm.trans hx')
      obtain ⟨dok, dt⟩ := hds d dm
      obtain ⟨g, rfl, hg⟩ := tupD_inv (s := [(d.i : Int), d.w, (d.t : Int)]) hdp
      have hg : SqT K G g [.int (d.i : Int), .int d.w, .int (d.t : Int)] := hg
      refine w_gtup hg rfl ?_
      walk_at "ct"
      refine ⟨D, cG, _, rfl, dG.2, by omega, by omega, fun f c1 J1 d1 c1l f0 f1 => ?_⟩
      obtain ⟨fN, rfl⟩ : ∃ fN : Nat, f = fN := ⟨f.toNat, by omega⟩
      have fle : fN ≤ d.t := by omega
      have hJ1 := d1.at dG.2 hG
      have hhv1 := d1.all dG.2 hhv
      have dJ1 := dG.trans d1
      walk_at "ct"
      refine ⟨len2 rfl, fun g3 ng3 => ?_⟩
      rw [show (d.t : Int) - (fN : Int) = ((d.t - fN : Nat) : Int) by omega] at *
      have v3 : Same J1 (upd J1 g3 (.lst [.int (fN : Int), .int ((d.t - fN : Nat) : Int)])) := same_upd ng3
      have hg3 : (upd J1 g3 (.lst [.int (fN : Int), .int ((d.t - fN : Nat) : Int)])) g3 = some (.lst [.int (fN : Int), .int ((d.t - fN : Nat) : Int)]) := upd_same
      have gB : g3 ≠ B := fun e => by rw [e, hJ1] at ng3; cases ng3
      generalize upd J1 g3 _ = J2 at *
      have dJ2 := dJ1.same v3
      walk_at "ct"
      refine w_IL (.of hg3) ?_
      refine fb_list [V.int (fN : Int), .int ((d.t - fN : Nat) : Int)] (fun m σ J => ∃ (y10 : Option V) (cJ : Nat) (iv : List V) (is : List Deed), σ = [some (.ref D), some (.ref a), some (.ref b), some (.ref l), some (.int (d.i : Int)), some (.ref A), some (.ref B), some (.int d.w), some (.int (d.t : Int)), some (.int (fN : Int)), y10, none, none] ∧ Dr D cJ G2 J ∧ cJ ≤ c1 + m ∧ J B = some (.lst iv) ∧ J g3 = some (.lst [.int (fN : Int), .int ((d.t - fN : Nat) : Int)]) ∧ DpAll K J iv (is.map Deed.data) ∧ is.length = 2 * k + m ∧ (∀ d ∈ is, d.ok n ∧ d.t < 2 ^ 150) ∧ ∀ j, netF is j = netF hs j + netF (([fN, d.t - fN].map fun h => (⟨d.i, d.w, h⟩ : Deed)).take m) j) ⟨_, c1, hv, hs, rfl, dJ2, by omega, v3 _ _ hJ1, hg3, dpAll_same v3 hhv1, by omega, hhs, fun _ => (Int.add_zero _).symm⟩ ?_ ?_ ?_
      · rintro m σ J _ ⟨y10, cJ, iv, is, rfl, _, _, _, h3, _⟩
        exact .of h3
      · rintro m x σ J hx ⟨y10, cJ, iv, is, rfl, dJ, cJl, hJ, h3, hiv, isl, his, hin⟩
        have hm : m < 2 := (List.getElem?_eq_some_iff.mp hx).1
        obtain ⟨hN, hhN, rfl, hNle⟩ : ∃ hN : Nat, [fN, d.t - fN][m]? = some hN ∧ x = .int (hN : Int) ∧ hN ≤ d.t := by
          have : m = 0 ∨ m = 1 := by omega
          rcases this with rfl | rfl
          · exact ⟨fN, rfl, (Option.some.inj hx).symm, fle⟩
          · exact ⟨d.t - fN, rfl, (Option.some.inj hx).symm, by omega⟩
        have ivl : iv.length = is.length := by rw [dpAll_len hiv, List.length_map]
        walk_at "ct"
        refine ⟨ty_list hJ, ?_⟩
        walk_at "ct"
        refine ⟨D, cJ, rfl, dJ.2, by omega, fun n5 _ _ => ?_⟩
        have st := Dr.step dJ.2 (cJ + 1)
        have hJ5 := st.at dJ.2 hJ
        have h35 := st.at dJ.2 h3
        have hiv5 := st.all dJ.2 hiv
        have dJ5 := dJ.trans st
        clear st
        generalize upd J D _ = J5 at *
        walk_at "ct"
        refine ⟨B, iv, rfl, .inl (.of hJ5), ?_⟩
        walk_at "ct"
        refine w_mod (by omega) fun r r0 r1 => ?_
        walk_at "ct"
        refine ⟨len2 rfl, fun g6 ng6 => ?_⟩
        have v6 : Same J5 (upd J5 g6 (.tup [.int (d.i : Int), .int d.w, .int (hN : Int)])) := same_upd ng6
        have hg6 : (upd J5 g6 (.tup [.int (d.i : Int), .int d.w, .int (hN : Int)])) g6 = some (.tup [.int (d.i : Int), .int d.w, .int (hN : Int)]) := upd_same
        generalize upd J5 g6 _ = J6 at *
        have dJ6 := dJ5.same v6
        have hJ6 := v6 _ _ hJ5
        walk_at "ct"
        refine ⟨B, iv, r, .ref g6, rfl, rfl, hJ6, small1000 (by omega), r0, by omega, ?_⟩
        walk_at "ct"
        refine ⟨_, cJ + 1, _, is.take r.toNat ++ [⟨d.i, d.w, hN⟩] ++ is.drop r.toNat, rfl, dJ6.put nB hJ6, by omega, upd_same, ?_, deeds_upd hJ6 _ (dp_ins _ (dpAll_same v6 hiv5) (deed_dpN hg6)), by rw [len_insL]; omega, fun e he => ?_, fun j => ?_⟩
        · rw [upd_ne gB]
          exact v6 _ _ h35
        · rcases mem_insL he with rfl | he
          · exact ⟨⟨dok.1, dok.2⟩, Nat.lt_of_le_of_lt hNle (Nat.lt_trans dt (by decide))⟩
          · exact his e he
        · rw [netF_ins, hin j, List.take_add_one, List.getElem?_map, hhN, netF_app, Int.add_assoc]
          rfl
      · rintro σ J ⟨y10, cJ, iv, is, rfl, dJ, cJl, hJ, h3, hiv, isl, his, hin⟩
        refine ⟨_, _, _, _, _, cJ, iv, is, rfl, dJ, ?_, hJ, hiv, ?_, his, fun j => ?_⟩
        · have : cJ ≤ c1 + 2 := cJl
          omega
        · have : is.length = 2 * k + 2 := isl
          omega
        · rw [hin j, hhn j, List.take_add_one, hdk, netF_app]
          congr 1
          exact netF_two dok.2 fle j
    rintro σ G4 ⟨y4, y7, y8, y9, y10, c4, hv, hs, rfl, d4, c4l, hB4, hhv, hsl, hhs, hhn⟩
    rw [rl] at hsl c4l
    rw [rl, List.take_length] at hhn
    have dH4 := dA.trans d4
    walk_at "ct"
    refine ⟨D, a, c4, tv, rfl, d4.2, by omega, .of (dH4.at hD ha), dH4.at hD ha, by omega, fun g dd c5 G5 d5 c5l ng hg di dw dt => ?_⟩
    have hB5 := d5.at d4.2 hB4
    have hhv5 := d5.all d4.2 hhv
    have dH5 := dH4.trans d5
    refine w_gtup (.of hg) rfl ?_
    walk_at "ct"
    refine ⟨b, rv, rfl, .inl (.of (dH5.at hD hb)), fun T nT => ?_⟩
    have u6 : Same G5 (upd G5 T (.lst rv)) := same_upd nT
    have hT : (upd G5 T (.lst rv)) T = some (.lst rv) := upd_same
    generalize upd G5 T _ = G6 at *
    have dH6 := dH5.same u6
    have hrd6 := dH6.all hD hrd
    have nTH : H T = none := dH5.free nT
    have hAG6 : G6 A = some (.lst gv) := u6 _ _ (d5.at d4.2 (d4.at dA.2 hA))
    have hBG6 : G6 B = some (.lst hv) := u6 _ _ hB5
    have AT : A ≠ T := fun e => by
      have z := d5.at d4.2 (d4.at dA.2 hA)
      rw [e, nT] at z
      cases z
    have BT : B ≠ T := fun e => by
      rw [e, nT] at hB5
      cases hB5
    have daG6 := dpAll_same u6 (d5.all d4.2 (d4.all dA.2 hgv))
    have dbG6 := dpAll_same u6 hhv5
    have hTG6 := hT
    have dHG6 := dH6
    have dtG6 := hrd6
    clear hT dH6 hrd6 hB5 hhv5 d5 hhv hgv hA
    walk_at "ct"
    refine ⟨ty_list hTG6, ?_⟩
    walk_at "ct"
    refine ⟨D, c5, rfl, dHG6.2, by omega, fun n7 _ _ => ?_⟩
    have st := Dr.step dHG6.2 (c5 + 1)
    have hAG7a := st.at dHG6.2 hAG6
    have hBG7a := st.at dHG6.2 hBG6
    have hTG7a := st.at dHG6.2 hTG6
    have daG7a := st.all dHG6.2 daG6
    have dbG7a := st.all dHG6.2 dbG6
    have dtG7a := st.all dHG6.2 dtG6
    have dHG7a := dHG6.trans st
    clear st
    generalize upd G6 D _ = G7a at *
    walk_at "ct"
    refine ⟨T, _, rfl, .inl (.of hTG7a), ?_⟩
    walk_at "ct"
    refine w_mod (by omega) fun r7 r70 r71 => ?_
    walk_at "ct"
    refine ⟨len2 rfl, fun g7 ng7 => ?_⟩
    have v7 : Same G7a (upd G7a g7 (.tup [.int (dd.i : Int), .int dd.w, .int (dd.t : Int)])) := same_upd ng7
    have hg7 : (upd G7a g7 (.tup [.int (dd.i : Int), .int dd.w, .int (dd.t : Int)])) g7 = some (.tup [.int (dd.i : Int), .int dd.w, .int (dd.t : Int)]) := upd_same
    generalize upd G7a g7 _ = G7b at *
    have hAG7b := v7 _ _ hAG7a
    have hBG7b := v7 _ _ hBG7a
    have hTG7b := v7 _ _ hTG7a
    have dHG7b := dHG7a.same v7
    have daG7b := dpAll_same v7 daG7a
    have dbG7b := dpAll_same v7 dbG7a
    have dtG7b := dpAll_same v7 dtG7a
    walk_at "ct"
    refine ⟨T, _, r7, .ref g7, rfl, rfl, hTG7b, small1000 (by omega), r70, by omega, ?_⟩
    have hAG7c : (upd G7b T (.lst (rv.take r7.toNat ++ [.ref g7] ++ rv.drop r7.toNat))) A = _ := (upd_ne AT).trans hAG7b
    have hBG7c : (upd G7b T (.lst (rv.take r7.toNat ++ [.ref g7] ++ rv.drop r7.toNat))) B = _ := (upd_ne BT).trans hBG7b
    have hTG7c : (upd G7b T (.lst (rv.take r7.toNat ++ [.ref g7] ++ rv.drop r7.toNat))) T = some _ := upd_same
    have dHG7c := dHG7b.put (o' := .lst (rv.take r7.toNat ++ [.ref g7] ++ rv.drop r7.toNat)) nTH hTG7b
    have daG7c := deeds_upd (o := .lst (rv.take r7.toNat ++ [.ref g7] ++ rv.drop r7.toNat)) hTG7b _ daG7b
    have dbG7c := deeds_upd (o := .lst (rv.take r7.toNat ++ [.ref g7] ++ rv.drop r7.toNat)) hTG7b _ dbG7b
    have dtG7c := deeds_upd (o := .lst (rv.take r7.toNat ++ [.ref g7] ++ rv.drop r7.toNat)) hTG7b _ (dp_ins (d := ⟨dd.i, dd.w, dd.t⟩) r7.toNat dtG7b (deed_dpN hg7))
    generalize upd G7b T _ = G7c at *
    generalize et7 : ds.take r7.toNat ++ [(⟨dd.i, dd.w, dd.t⟩ : Deed)] ++ ds.drop r7.toNat = ts7 at *
    generalize ev7 : rv.take r7.toNat ++ [V.ref g7] ++ rv.drop r7.toNat = tv7 at *
    have tl7 : tv7.length = rv.length + 1 := by rw [← ev7]; exact len_insL _ _ _
    walk_at "ct"
    refine ⟨ty_list hTG7c, ?_⟩
    walk_at "ct"
    refine ⟨D, (c5 + 1), rfl, dHG7c.2, by omega, fun n8 _ _ => ?_⟩
    have st := Dr.step dHG7c.2 ((c5 + 1) + 1)
    have hAG8a := st.at dHG7c.2 hAG7c
    have hBG8a := st.at dHG7c.2 hBG7c
    have hTG8a := st.at dHG7c.2 hTG7c
    have daG8a := st.all dHG7c.2 daG7c
    have dbG8a := st.all dHG7c.2 dbG7c
    have dtG8a := st.all dHG7c.2 dtG7c
    have dHG8a := dHG7c.trans st
    clear st
    generalize upd G7c D _ = G8a at *
    walk_at "ct"
    refine ⟨T, _, rfl, .inl (.of hTG8a), ?_⟩
    walk_at "ct"
    refine w_mod (by omega) fun r8 r80 r81 => ?_
    walk_at "ct"
    refine ⟨len2 rfl, fun g8 ng8 => ?_⟩
    have v8 : Same G8a (upd G8a g8 (.tup [.int (dd.i : Int), .int (0 - dd.w), .int (dd.t : Int)])) := same_upd ng8
    have hg8 : (upd G8a g8 (.tup [.int (dd.i : Int), .int (0 - dd.w), .int (dd.t : Int)])) g8 = some (.tup [.int (dd.i : Int), .int (0 - dd.w), .int (dd.t : Int)]) := upd_same
    generalize upd G8a g8 _ = G8b at *
    have hAG8b := v8 _ _ hAG8a
    have hBG8b := v8 _ _ hBG8a
    have hTG8b := v8 _ _ hTG8a
    have dHG8b := dHG8a.same v8
    have daG8b := dpAll_same v8 daG8a
    have dbG8b := dpAll_same v8 dbG8a
    have dtG8b := dpAll_same v8 dtG8a
    walk_at "ct"
    refine ⟨T, _, r8, .ref g8, rfl, rfl, hTG8b, small1000 (by omega), r80, by omega, ?_⟩
    have hAG8c : (upd G8b T (.lst (tv7.take r8.toNat ++ [.ref g8] ++ tv7.drop r8.toNat))) A = _ := (upd_ne AT).trans hAG8b
    have hBG8c : (upd G8b T (.lst (tv7.take r8.toNat ++ [.ref g8] ++ tv7.drop r8.toNat))) B = _ := (upd_ne BT).trans hBG8b
    have hTG8c : (upd G8b T (.lst (tv7.take r8.toNat ++ [.ref g8] ++ tv7.drop r8.toNat))) T = some _ := upd_same
    have dHG8c := dHG8b.put (o' := .lst (tv7.take r8.toNat ++ [.ref g8] ++ tv7.drop r8.toNat)) nTH hTG8b
    have daG8c := deeds_upd (o := .lst (tv7.take r8.toNat ++ [.ref g8] ++ tv7.drop r8.toNat)) hTG8b _ daG8b
    have dbG8c := deeds_upd (o := .lst (tv7.take r8.toNat ++ [.ref g8] ++ tv7.drop r8.toNat)) hTG8b _ dbG8b
    have dtG8c := deeds_upd (o := .lst (tv7.take r8.toNat ++ [.ref g8] ++ tv7.drop r8.toNat)) hTG8b _ (dp_ins (d := ⟨dd.i, (0 - dd.w), dd.t⟩) r8.toNat dtG8b (deed_dpN hg8))
    generalize upd G8b T _ = G8c at *
    generalize et8 : ts7.take r8.toNat ++ [(⟨dd.i, (0 - dd.w), dd.t⟩ : Deed)] ++ ts7.drop r8.toNat = ts8 at *
    generalize ev8 : tv7.take r8.toNat ++ [V.ref g8] ++ tv7.drop r8.toNat = tv8 at *
    have tl8 : tv8.length = tv7.length + 1 := by rw [← ev8]; exact len_insL _ _ _
    walk_at "ct"
    have hb8 := dHG8c.at hD hb
    have hrd8 := dHG8c.all hD hrd
    have smt : ∀ d ∈ ds, d.ok n ∧ d.t < 2 ^ 150 := fun d hd => ⟨(hds d hd).1, Nat.lt_trans (hds d hd).2 (by decide)⟩
    refine ⟨b, rv, rfl, .of hb8, fun p1 np1 => ?_⟩
    have x1 : Same G8c (upd G8c p1 (.lst rv.reverse)) := same_upd np1
    have hp1 : (upd G8c p1 (.lst rv.reverse)) p1 = some (.lst rv.reverse) := upd_same
    generalize upd G8c p1 _ = J1 at *
    have R0 : RowOf K G8c b n ds := ⟨rv, ds, hb8, hrd8, by omega, smt, fun _ => rfl⟩
    have R1 : RowOf K J1 p1 n ds := ⟨rv.reverse, ds.reverse, hp1, by rw [List.map_reverse]; exact dpAll_rev (dpAll_same x1 hrd8), by rw [List.length_reverse]; omega, fun d hd => smt d (List.mem_reverse.mp hd), fun j => netF_perm (List.reverse_perm ds) j⟩
    walk_at "ct"
    refine ⟨b, rv, ds.map Deed.data, rfl, .of (x1 _ _ hb8), dpAll_same x1 hrd8, deeds_alike ds, deeds_sort ds, fun d hd => ?_, fun ys es2 p2 pm yl hys np2 => ?_⟩
    · obtain ⟨e, _, rfl⟩ := List.mem_map.mp hd
      show 1 ≤ 60
      decide
    obtain ⟨fs, rfl, fp⟩ := deeds_of_perm pm
    have x2 : Same J1 (upd J1 p2 (.lst ys)) := same_upd np2
    have hp2 : (upd J1 p2 (.lst ys)) p2 = some (.lst ys) := upd_same
    generalize upd J1 p2 _ = J2 at *
    have R2 : RowOf K J2 p2 n ds := ⟨ys, fs, hp2, dpAll_same x2 hys, by rw [fp.length_eq]; omega, fun d hd => smt d (fp.mem_iff.mp hd), fun j => netF_perm fp j⟩
    have x12 := x1.trans x2
    walk_at "ct"
    refine ⟨A, gv, rfl, .of (x12 _ _ hAG8c), fun p3 np3 => ?_⟩
    have x3 : Same J2 (upd J2 p3 (.lst gv.reverse)) := same_upd np3
    have hp3 : (upd J2 p3 (.lst gv.reverse)) p3 = some (.lst gv.reverse) := upd_same
    generalize upd J2 p3 _ = J3 at *
    have x13 := x12.trans x3
    have R3 : RowOf K G8c A n ds := ⟨gv, es, hAG8c, daG8c, by omega, hes, hnet⟩
    have R4 : RowOf K J3 p3 n ds := ⟨gv.reverse, es.reverse, hp3, by rw [List.map_reverse]; exact dpAll_rev (dpAll_same x13 daG8c), by rw [List.length_reverse]; omega, fun d hd => hes d (List.mem_reverse.mp hd), fun j => (netF_perm (List.reverse_perm es) j).trans (hnet j)⟩
    have R5 : RowOf K G8c B n ds := ⟨hv, hs, hBG8c, dbG8c, by omega, hhs, hhn⟩
    have R6 : RowOf K G8c T n ds := by
      refine ⟨tv8, ts8, hTG8c, dtG8c, ?_, fun d hd => ?_, fun j => ?_⟩
      · have := dpAll_len dtG8c
        rw [List.length_map] at this
        omega
      · rw [← et8] at hd
        rcases mem_insL hd with rfl | hd
        · exact ⟨⟨show dd.i < n by omega, by
            rcases dw with z | z
            · exact .inr (by show 0 - dd.w = -1; omega)
            · exact .inl (by show 0 - dd.w = 1; omega)⟩, Nat.lt_trans dt (by decide)⟩
        rw [← et7] at hd
        rcases mem_insL hd with rfl | hd
        · exact ⟨⟨show dd.i < n by omega, dw⟩, Nat.lt_trans dt (by decide)⟩
        · exact smt d hd
      · rw [← et8, netF_ins, ← et7, netF_ins, Int.add_assoc, netF_back, Int.add_zero]
    walk_at "ct"
    refine ⟨len2 rfl, fun L nL => ?_⟩
    have x4 : Same J3 (upd J3 L (.lst [.ref b, .ref p1, .ref p2, .ref A, .ref p3, .ref B, .ref T])) := same_upd nL
    have hL : (upd J3 L (.lst [.ref b, .ref p1, .ref p2, .ref A, .ref p3, .ref B, .ref T])) L = some (.lst ([b, p1, p2, A, p3, B, T].map V.ref)) := upd_same
    generalize upd J3 L _ = J4 at *
    have x14 := x13.trans x4
    walk_at "ct"
    refine q L [b, p1, p2, A, p3, B, T] _ J4 (dHG8c.same x14) (by omega) hL rfl fun o ho => ?_
    simp only [List.mem_cons, List.not_mem_nil, or_false] at ho
    rcases ho with rfl | rfl | rfl | rfl | rfl | rfl | rfl
    · exact R0.same x14
    · exact R1.same (x2.trans (x3.trans x4))
    · exact R2.same (x3.trans x4)
    · exact R3.same x14
    · exact R4.same x4
    · exact R5.same x14
    · exact R6.same x14
abbrev S__law_is : Stmt := topS 39
theorem sc__law_is : FnScope ["_law_train", "_law_wheels", "_law_got", "_law_due_here", "_law_number"] ["_law_train", "_law_wheels", "_law_got", "_law_due_here"] (defScope S__law_is) := ⟨rfl, rfl, rfl, by decide +kernel, rfl, by decide +kernel, by decide +kernel⟩
def sp__law_is (K : PySem.W.Frag) : Sp := fun vs H Q _ => ∃ (a w0 g u e1 e2 : Addr) (tv wv : List V) (xs ys : List Int) (s s' : Int), vs = [.ref a, .ref w0, .ref g, .ref e1] ∧ SqL K H a tv ∧ SqL K H w0 wv ∧ wv.length ≤ tv.length ∧ tv.length ≤ 100 ∧ SqT K H g [.ref u, .int s] ∧ SqT K H u (xs.map V.int) ∧ xs.length = tv.length ∧ SqT K H e1 [.ref e2, .int s'] ∧ SqT K H e2 (ys.map V.int) ∧ xs.take wv.length = ys ∧ (wv.length = tv.length → s = s') ∧ ∀ H', Same H H' → Q (.bl true) H'
theorem ok__law_is {f : Addr} {fd : FuncData} (F : Fun K "_law_is" "_law_is" S__law_is f fd) (m_len : mg "len" = none) (m_isinstance : mg "isinstance" = none) (m_tuple : mg "tuple" = none) (m_bool : mg "bool" = none) (m_int : mg "int" = none) :
    FnOk P w K mg base CX0 1 f fd ["_law_train", "_law_wheels", "_law_got", "_law_due_here"] (sp__law_is K) := by
  refine F.ok sc__law_is (fun vs H Q E h => ?_) (fun cdv A outer s H vs Q E hr h => ?_)
  ·
    obtain ⟨a, w0, g, u, e1, e2, tv, wv, xs, ys, s, s', rfl, _⟩ := h
    rfl
  ·
    obtain ⟨a, w0, g, u, e1, e2, tv, wv, xs, ys, s1, s', rfl, ha, hw, wl, tl, hg, hu, xl, he1, he2, hy, hs, q⟩ := h
    refine ⟨_, (pss_cons (ps_if (PW.pt (pw_or (pt_not (pt_val (pe_callB (r := rIsi K) call_isi (by rfl) m_isinstance (by decide +kernel) (pa_cons (pv 2) (pa_cons (pe_bltn (v := .ty "tuple") (u := .type "tuple") (by rfl) m_tuple (by decide +kernel) rfl) pa_nil))))) (pw_or (pt_cmpR op_ne (pe_callB call_len_seq (by rfl) m_len (by decide +kernel) (pa_cons (pv 2) pa_nil)) pe_int (nomark _)) (pw_or (pt_not (pt_val (pe_callB (r := rIsi K) call_isi (by rfl) m_isinstance (by decide +kernel) (pa_cons (pe_ix (r := rIxT K) ix_tup (pv 2) pe_int (fun _ _ => rfl)) (pa_cons (pe_bltn (v := .ty "tuple") (u := .type "tuple") (by rfl) m_tuple (by decide +kernel) rfl) pa_nil))))) (pw_or1 (pt_cmpR op_ne (pe_callB call_len_seq (by rfl) m_len (by decide +kernel) (pa_cons (pe_ix (r := rIxT K) ix_tup (pv 2) pe_int (fun _ _ => rfl)) pa_nil)) (pe_callB call_len_seq (by rfl) m_len (by decide +kernel) (pa_cons (pv 0) pa_nil)) (nomark _))))))) (pss_one (ps_ret pe_bl)) pss_nil)
      (pss_cons (ps_for PassesOwn.never rfl (pi_tup (pe_op (r := rCatA K) op_catA (pe_ix (r := rIxT K) ix_tup (pv 2) pe_int (fun _ _ => rfl)) (pe_tup (pa_cons (pe_ix (r := rIxT K) ix_tup (pv 2) pe_int (fun _ _ => rfl)) pa_nil)))) (pg_name (i := 4) sc__law_is.nd rfl (.inl rfl))
      (pss_one (ps_if (PW.pt (pw_or (pt_not (pt_val (pe_callB (r := rIsi K) call_isi (by rfl) m_isinstance (by decide +kernel) (pa_cons (pv 4) (pa_cons (pe_bltn (v := .ty "int") (u := .type "int") (by rfl) m_int (by decide +kernel) rfl) pa_nil))))) (pw_or1 (pt_val (pe_callB (r := rIsi K) call_isi (by rfl) m_isinstance (by decide +kernel) (pa_cons (pv 4) (pa_cons (pe_bltn (v := .ty "bool") (u := .type "bool") (by rfl) m_bool (by decide +kernel) rfl) pa_nil))))))) (pss_one (ps_ret pe_bl)) pss_nil)))
      (pss_cons (ps_if (pt_cmpR op_lt (pe_callB call_len_seq (by rfl) m_len (by decide +kernel) (pa_cons (pv 1) pa_nil)) (pe_callB call_len_seq (by rfl) m_len (by decide +kernel) (pa_cons (pv 0) pa_nil)) (nomark _)) (pss_one (ps_ret (pe_cmpR (r := rEqD K) (op_eqD hr.units) (pe_slice (r := rSlA K) sl_tupA (pe_ix (r := rIxT K) ix_tup (pv 2) pe_int (fun _ _ => rfl)) po_none (po_some (pe_callB call_len_seq (by rfl) m_len (by decide +kernel) (pa_cons (pv 1) pa_nil)))) (pe_ix (r := rIxT K) ix_tup (pv 3) pe_int (fun _ _ => rfl)) (nomark _)))) pss_nil)
      (pss_one (ps_ret (pe_cmpR (r := rEqD K) (op_eqD hr.units) (pv 2) (pv 3) (nomark _))))))), ?_⟩
    refine w_st (σ' := [some (.ref a), some (.ref w0), some (.ref g), some (.ref e1), none]) rfl ?_
    walk_at "ct"
    refine w_isi (b := true) (tyx_T hg) (kit_ty (by decide +kernel)) ?_
    walk_at "ct"
    refine ⟨g, _, rfl, .inr hg, ?_⟩
    walk_at "ct"
    refine w_iteN (fun z => absurd rfl z) (fun _ => ?_)
    walk_at "ct"
    refine w_isi (b := true) (tyx_T hu) (kit_ty (by decide +kernel)) ?_
    walk_at "ct"
    refine ⟨u, _, rfl, .inr hu, ?_⟩
    walk_at "ct"
    refine ⟨a, tv, rfl, .inl ha, ?_⟩
    walk_at "ct"
    refine w_iteN (fun z => absurd (by rw [List.length_map, xl]) z) (fun _ => ?_)
    walk_at "ct"
    refine ⟨len2 rfl, fun p1 np1 => ?_⟩
    have u1 : Same H (upd H p1 (.tup [.int s1])) := same_upd np1
    have hp1 : (upd H p1 (.tup [.int s1])) p1 = some (.tup [.int s1]) := upd_same
    generalize upd H p1 _ = H1 at *
    refine w_catA (Same.tup u1 hu) (.of hp1) (by rw [List.length_map]; show xs.length + 1 ≤ 1000; omega) fun p2 H2 u2 hp2 => ?_
    have s2 := u1.trans u2
    rw [show xs.map V.int ++ [V.int s1] = (xs ++ [s1]).map V.int by rw [List.map_append]; rfl] at hp2
    walk_at "ct"
    refine w_IT hp2 ?_
    refine fb_tup ((xs ++ [s1]).map V.int) (fun i σ J => ∃ y4 : Option V, σ = [some (.ref a), some (.ref w0), some (.ref g), some (.ref e1), y4] ∧ J = H2) ⟨_, rfl, rfl⟩ ?_ ?_ ?_
    · rintro i σ J _ ⟨y4, rfl, rfl⟩
      exact hp2
    · rintro i v σ J hv ⟨y4, rfl, rfl⟩
      obtain ⟨n, rfl⟩ : ∃ n : Int, v = .int n := by
        obtain ⟨k, _, rfl⟩ := List.mem_map.mp (List.mem_of_getElem? hv)
        exact ⟨k, rfl⟩
      walk_at "ct"
      refine w_isi (b := true) (.base (.int n)) (kit_ty (by decide +kernel)) ?_
      walk_at "ct"
      refine w_isi (b := false) (.base (.int n)) (kit_ty (by decide +kernel)) ?_
      walk_at "ct"
      exact ⟨_, rfl, rfl⟩
    · rintro σ J ⟨y4, rfl, rfl⟩
      have hg2 := Same.tup s2 hg
      have hu2 := Same.tup s2 hu
      have he12 := Same.tup s2 he1
      have he22 := Same.tup s2 he2
      walk_at "ct"
      refine ⟨w0, wv, rfl, .inl (s2.seq hw), ?_⟩
      walk_at "ct"
      refine ⟨a, tv, rfl, .inl (s2.seq ha), ?_⟩
      walk_at "ct"
      refine w_ite (fun lt => ?_) (fun ge => ?_)
      · walk_at "ct"
        refine ⟨w0, wv, rfl, .inl (s2.seq hw), ?_⟩
        walk_at "ct"
        have cut : cutV (xs.map V.int) none (some ((wv.length : Nat) : Int)) = (xs.take wv.length).map V.int := by
          rw [cutV_map, HT.sIx_none, HT.sIx_nat, List.drop_zero, Nat.min_eq_left (by omega), Nat.sub_zero]
        have fin : ∀ (p : Addr) (J3 : Hp), Same J J3 → SqT K J3 p ((xs.take wv.length).map V.int) → rEqD K (.ref p) (.ref e2) J3 Q := fun p J3 s3 hp => by
          rw [hy] at hp
          exact w_eqSame (.tuple (ys.map PyData.int)) (.tup hp (dpAll_ints ys)) (.tup (Same.tup s3 he22) (dpAll_ints ys)) (lay_tup (lay_ints ys 0)) (by decide) (q J3 (s2.trans s3))
        refine ⟨u, _, rfl, hu2, fun whole => ?_, fun _ p np => ?_⟩
        · walk_at "ct"
          refine fin u J (Same.refl J) ?_
          rw [← cut, show cutV (xs.map V.int) none (some ((wv.length : Nat) : Int)) = xs.map V.int by unfold cutV; rw [whole.1, whole.2, List.drop_zero, Nat.sub_zero, List.take_length]]
          exact hu2
        · have hp : SqT K (upd J p (.tup (cutV (xs.map V.int) none (some ((wv.length : Nat) : Int))))) p ((xs.take wv.length).map V.int) := .of (by rw [upd_same, cut])
          have s3 : Same J (upd J p (.tup (cutV (xs.map V.int) none (some ((wv.length : Nat) : Int))))) := same_upd np
          have he13 := Same.tup s3 he12
          generalize upd J p _ = J3 at *
          walk_at "ct"
          exact fin p J3 s3 hp
      · have e : wv.length = tv.length := by omega
        have exy : xs = ys := by rw [← hy, e, ← xl, List.take_length]
        have ess := hs e
        subst exy ess
        walk_at "ct"
        exact w_eqSame (.tuple [.tuple (xs.map PyData.int), .int s1]) (.tup hg2 (.cons (.tup hu2 (dpAll_ints xs)) (.cons (.int s1) .nil))) (.tup he12 (.cons (.tup he22 (dpAll_ints xs)) (.cons (.int s1) .nil))) (lay_tup (n := 1) fun d hd => by
          rcases List.mem_cons.mp hd with rfl | hd
          · exact lay_tup (lay_ints xs 0)
          · rw [List.mem_singleton.mp hd]; exact ⟨rfl, Nat.zero_le _⟩) (by decide) (q J s2)
abbrev S__law_round_holds : Stmt := topS 40
theorem sc__law_round_holds : FnScope ["_law_train", "_law_stand", "_law_i", "_law_way", "_law_many", "_law_shown", "_law_part"] ["_law_train", "_law_stand", "_law_i", "_law_way"] (defScope S__law_round_holds) := ⟨rfl, rfl, rfl, by decide +kernel, rfl, by decide +kernel, by decide +kernel⟩
def sp__law_round_holds (K : PySem.W.Frag) : Sp := fun vs H Q _ => ∃ (a t : Addr) (ps : List Part) (xs : List Int) (i : Nat) (w1 : Int), vs = [.ref a, .ref t, .int (i : Int), .int w1] ∧ TrainAt K H a ps ∧ Wheels ps ∧ StandL ps xs ∧ SqT K H t (xs.map V.int) ∧ 1 ≤ ps.length ∧ ps.length ≤ 10 ∧ i < ps.length ∧ Sign w1 ∧ (∀ p ∈ ps, p.places ≤ 10 ^ 40 ∧ (marksN p).length ≤ 6) ∧ ∀ H', Same H H' → Q (.bl true) H'
theorem ok__law_round_holds {f : Addr} {fd : FuncData} {f_left : Addr} {fd_left : FuncData} (F : Fun K "_law_round_holds" "_law_round_holds" S__law_round_holds f fd)
    (F_left : Fun K "left" "left" S_left f_left fd_left) (b_left : Binds K fd_left ["train", "stand", "row"] []) (g_left : mg "left" = some (.ref f_left)) (G_left : FnOk P w K mg base CX0 6 f_left fd_left ["train", "stand", "row"] (sp_left K)) (m_len : mg "len" = none) :
    FnOk P w K mg base CX0 7 f fd ["_law_train", "_law_stand", "_law_i", "_law_way"] (sp__law_round_holds K) := by
  refine F.ok sc__law_round_holds (fun vs H Q E h => ?_) (fun cdv A outer s H vs Q E hr h => ?_)
  ·
    obtain ⟨a, t, ps, xs, i, w1, rfl, _⟩ := h
    rfl
  ·
    obtain ⟨a, t, ps, xs, i, w1, rfl, hT, hw, hs, ht, p1, pl, il, sw, pb, q⟩ := h
    refine ⟨_, (pss_cons (ps_set (i := 4) sc__law_round_holds.nd rfl (.inl rfl) pe_int)
      (pss_cons (ps_set (i := 5) sc__law_round_holds.nd rfl (.inl rfl) (pv 3))
      (pss_cons (ps_for PassesOwn.never rfl (pi_list (pe_slice (r := rSlL K) sl_list (pv 0) (po_some (pv 2)) po_none)) (pg_name (i := 6) sc__law_round_holds.nd rfl (.inl rfl))
      (pss_cons (ps_set (i := 4) sc__law_round_holds.nd rfl (.inl rfl) (pe_op op_mulW (pv 4) (pe_ix (r := rIxT K) ix_tup (pv 6) pe_int (fun _ _ => rfl))))
      (pss_one (ps_set (i := 5) sc__law_round_holds.nd rfl (.inl rfl) (pe_op op_mulW (pv 5) (pe_callB call_len_seq (by rfl) m_len (by decide +kernel) (pa_cons (pe_ix (r := rIxT K) ix_tup (pv 6) pe_int (fun _ _ => rfl)) pa_nil)))))))
      (pss_cons (ps_if (pt_cmpR op_ge (pv 4) (pe_op op_powB pe_int pe_int) (nomark _)) (pss_one (ps_ret pe_bl)) pss_nil)
      (pss_one (ps_ret (pe_cmpR (r := rEqD K) (op_eqD hr.units) (pe_call G_left (hr.mono (by decide)) (by rfl) g_left F_left.kp b_left .nil pass0 (pa_cons (pv 0) (pa_cons (pv 1) (pa_cons (pe_lst (pa_cons (pe_tup (pa_cons (pv 2) (pa_cons (pv 3) (pa_cons (pv 4) pa_nil)))) pa_nil)) pa_nil)))) (pe_tup (pa_cons (pv 1) (pa_cons (pv 5) pa_nil))) (nomark _)))))))), ?_⟩
    refine w_st (σ' := [some (.ref a), some (.ref t), some (.int (i : Int)), some (.int w1), none, none, none]) rfl ?_
    obtain ⟨vs, hv, hd⟩ := id hT
    have vl : vs.length = ps.length := by rw [dpAll_len hd, List.length_map]
    walk_at "ct"
    refine w_slL hv fun l nl => ?_
    have cut : cutV vs (some (i : Int)) none = vs.drop i := by
      unfold cutV
      rw [HT.sIx_none, HT.sIx_nat, Nat.min_eq_left (by omega), List.take_of_length_le (by rw [List.length_drop]; omega)]
    rw [cut]
    have u1 : Same H (upd H l (.lst (vs.drop i))) := same_upd nl
    have hl : (upd H l (.lst (vs.drop i))) l = some (.lst (vs.drop i)) := upd_same
    generalize upd H l _ = H1 at *
    have hd1 := dpAll_drop i (dpAll_same u1 hd)
    rw [← List.map_drop] at hd1
    walk_at "ct"
    refine w_IL (.of hl) ?_
    refine fb_list (vs.drop i) (fun j σ G => ∃ (y6 : Option V), σ = [some (.ref a), some (.ref t), some (.int (i : Int)), some (.int w1), some (.int (prodZ ((ps.drop i).take j) : Int)), some (.int (w1 * (prodM ((ps.drop i).take j) : Int))), y6] ∧ Same H1 G) ⟨none, by rw [List.take_zero, show w1 * ((prodM ([] : List Part) : Nat) : Int) = w1 from Int.mul_one _]; rfl, Same.refl _⟩ ?_ ?_ ?_
    · rintro j σ G _ ⟨y6, rfl, sG⟩
      exact .of (sG _ _ hl)
    · rintro j x σ G hx ⟨y6, rfl, sG⟩
      have hj : j < (vs.drop i).length := (List.getElem?_eq_some_iff.mp hx).1
      rw [List.length_drop] at hj
      obtain ⟨p, hp⟩ : ∃ p, (ps.drop i)[j]? = some p := ⟨_, List.getElem?_eq_getElem (by rw [List.length_drop]; omega)⟩
      obtain ⟨x', hx', hdp⟩ := dpAll_get hd1 (i := j) (d := p.data) (by rw [List.getElem?_map, hp]; rfl)
      cases Option.some.inj (hx.symm.trans hx')
      have pm := List.mem_of_mem_drop (List.mem_of_getElem? hp)
      have pw := hw p pm
      obtain ⟨z, ms, rfl⟩ : ∃ z ms, p = .wheel z ms := by
        cases p with
        | wheel z ms => exact ⟨z, ms, rfl⟩
        | click => cases pw
        | rocker => cases pw
        | spring _ => cases pw
      have pok : (Part.wheel z ms).ok := hs.okp _ pm
      have z1 : 1 ≤ z := pok.1
      have zb : z ≤ 10 ^ 40 := (pb _ pm).1
      have mb : ms.length ≤ 6 := (pb _ pm).2
      obtain ⟨ga, gm, rfl, hga, hgm⟩ := wheel_inv (dp_same sG hdp)
      have pz := prodZ_small (l := (ps.drop i).take j) fun q hq => (pb q (List.mem_of_mem_drop (List.mem_of_mem_take hq))).1
      have pmm := prodM_small (l := (ps.drop i).take j) fun q hq => (pb q (List.mem_of_mem_drop (List.mem_of_mem_take hq))).2
      have tl : ((ps.drop i).take j).length ≤ 10 := by rw [List.length_take, List.length_drop]; omega
      have pz2 : prodZ ((ps.drop i).take j) < 2 ^ 1400 := Nat.lt_of_lt_of_le pz (Nat.pow_le_pow_right (by decide) (by omega))
      have pm2 : prodM ((ps.drop i).take j) < 2 ^ 40 := Nat.lt_of_lt_of_le pmm (Nat.pow_le_pow_right (by decide) (by omega))
      have et : (ps.drop i).take (j + 1) = (ps.drop i).take j ++ [.wheel z ms] := by rw [List.take_add_one, hp]; rfl
      walk_at "ct"
      refine w_rIv (.int ((prodZ ((ps.drop i).take j) : Int) * z)) (wide_mul (a := 1400) (b := 140) (by rw [Int.natAbs_natCast]; exact pz2) (by omega) (by decide) (by decide) (by decide)) rfl ?_
      walk_at "ct"
      refine ⟨gm, _, rfl, .inr hgm, ?_⟩
      have w1b : (w1 * (prodM ((ps.drop i).take j) : Int)).natAbs < 2 ^ 40 := by rcases sw with rfl | rfl <;> omega
      refine w_rIv (.int (w1 * (prodM ((ps.drop i).take j) : Int) * ((ms.map V.int).length : Int))) (wide_mul (a := 40) (b := 10) w1b (by rw [List.length_map]; omega) (by decide) (by decide) (by decide)) rfl ?_
      walk_at "ct"
      refine ⟨some (.ref ga), ?_, sG⟩
      rw [et, prodZ_app, prodM_app, List.length_map, Int.natCast_mul, Int.natCast_mul, Int.mul_assoc]
      rw [show ((Part.wheel z ms).places.toNat : Int) = z from Int.toNat_of_nonneg (show 0 ≤ z by omega)]
      rfl
    · rintro σ G ⟨y6, rfl, sG⟩
      rw [List.take_of_length_le (by rw [List.length_drop, List.length_drop]; omega)]
      have s01 := u1.trans sG
      walk_at "ct"
      refine w_rIv (.int (10 ^ 40)) ⟨by decide, by decide⟩ rfl ?_
      walk_at "ct"
      refine w_ite (fun _ => ?_) (fun lt => ?_)
      · walk_at "ct"
        exact q G s01
      walk_at "ct"
      refine ⟨len2 rfl, fun g1 ng1 => ?_⟩
      have v1 : Same G (upd G g1 (.tup [.int (i : Int), .int w1, .int (prodZ (ps.drop i) : Int)])) := same_upd ng1
      have hg1 : (upd G g1 (.tup [.int (i : Int), .int w1, .int (prodZ (ps.drop i) : Int)])) g1 = some (.tup [.int (i : Int), .int w1, .int (prodZ (ps.drop i) : Int)]) := upd_same
      generalize upd G g1 _ = G1 at *
      walk_at "ct"
      refine ⟨len2 rfl, fun g2 ng2 => ?_⟩
      have v2 : Same G1 (upd G1 g2 (.lst [.ref g1])) := same_upd ng2
      have hg2 : (upd G1 g2 (.lst [.ref g1])) g2 = some (.lst [.ref g1]) := upd_same
      generalize upd G1 g2 _ = G2 at *
      have s02 := s01.trans (v1.trans v2)
      have lt40 : prodZ (ps.drop i) < 10 ^ 40 := by omega
      walk_at "ct"
      refine ⟨a, t, g2, ps, xs, [⟨i, w1, prodZ (ps.drop i)⟩], rfl, hT.same s02, hs, p1, by omega, Same.tup s02 ht, ⟨[.ref g1], .of hg2, .cons (.tup (.of (v2 _ _ hg1)) (.cons (.int _) (.cons (.int _) (.cons (.int _) .nil)))) .nil⟩, fun d hd => ?_, fun q1 u3 G3 s3 _ _ hu3 hq1 => ?_⟩
      · rw [List.mem_singleton.mp hd]
        exact ⟨⟨il, sw⟩, Nat.lt_trans lt40 (by decide)⟩
      rw [round_net sw hw hs] at hu3 hq1
      walk_at "ct"
      refine ⟨len2 rfl, fun g4 ng4 => ?_⟩
      have v4 : Same G3 (upd G3 g4 (.tup [.ref t, .int (w1 * (prodM (ps.drop i) : Int))])) := same_upd ng4
      have hg4 : (upd G3 g4 (.tup [.ref t, .int (w1 * (prodM (ps.drop i) : Int))])) g4 = some (.tup [.ref t, .int (w1 * (prodM (ps.drop i) : Int))]) := upd_same
      generalize upd G3 g4 _ = G4 at *
      have s04 := s02.trans (s3.trans v4)
      exact w_eqSame (.tuple [.tuple (xs.map PyData.int), .int (w1 * (prodM (ps.drop i) : Int))]) (.tup (.of (v4 _ _ hq1)) (.cons (.tup (.of (v4 _ _ hu3)) (dpAll_ints xs)) (.cons (.int _) .nil))) (.tup (.of hg4) (.cons (.tup (Same.tup s04 ht) (dpAll_ints xs)) (.cons (.int _) .nil))) (lay_tup (n := 1) fun d hd => by
        rcases List.mem_cons.mp hd with rfl | hd
        · exact lay_tup (lay_ints xs 0)
        · rw [List.mem_singleton.mp hd]; exact ⟨rfl, Nat.zero_le _⟩) (by decide) (q G4 s04)
abbrev S__law_often_holds : Stmt := topS 41
theorem sc__law_often_holds : FnScope ["_law_draws_here", "_law_train", "_law_wheels", "_law_stand", "_law_row", "_law_many", "_law_part", "_law_times", "_law_due_here"] ["_law_draws_here", "_law_train", "_law_wheels", "_law_stand", "_law_row"] (defScope S__law_often_holds) := ⟨rfl, rfl, rfl, by decide +kernel, rfl, by decide +kernel, by decide +kernel⟩
def sp__law_often_holds (K : PySem.W.Frag) : Sp := fun vs H Q _ => ∃ (D a w0 t b : Addr) (c : Nat) (ws qs : List Part) (xs ys : List Int) (ds : List Deed), vs = [.ref D, .ref a, .ref w0, .ref t, .ref b] ∧ H D = some (DrO D c) ∧ c ≤ 870000 ∧ (∃ tv, H a = some (.lst tv) ∧ DpAll K H tv ((ws ++ qs).map Part.data)) ∧ (∃ wv, H w0 = some (.lst wv) ∧ DpAll K H wv (ws.map Part.data)) ∧ Wheels ws ∧ 1 ≤ ws.length ∧ (ws ++ qs).length ≤ 10 ∧ StandL ws xs ∧ StandL qs ys ∧ H t = some (.tup ((xs ++ ys).map V.int)) ∧ (∃ rv, H b = some (.lst rv) ∧ DpAll K H rv (ds.map Deed.data)) ∧ ds.length ≤ 8 ∧ (∀ d ∈ ds, d.ok (ws ++ qs).length ∧ d.t < 10 ^ 39) ∧ (∀ p ∈ ws ++ qs, p.places ≤ 10 ^ 40) ∧
  ∀ c' H', Dr D c' H H' → c' ≤ c + 9 → Q (.bl true) H'
theorem ok__law_often_holds {f : Addr} {fd : FuncData} {f_left_often : Addr} {fd_left_often : FuncData} {f__law_is : Addr} {fd__law_is : FuncData} {f__law_net : Addr} {fd__law_net : FuncData} {f__law_due : Addr} {fd__law_due : FuncData} {f__law_far : Addr} {fd__law_far : FuncData} {f__law_places : Addr} {fd__law_places : FuncData} (F : Fun K "_law_often_holds" "_law_often_holds" S__law_often_holds f fd)
    (F_left_often : Fun K "left_often" "left_often" S_left_often f_left_often fd_left_often) (b_left_often : Binds K fd_left_often ["train", "stand", "row", "times"] []) (g_left_often : mg "left_often" = some (.ref f_left_often)) (G_left_often : FnOk P w K mg base CX0 6 f_left_often fd_left_often ["train", "stand", "row", "times"] (sp_left_often K))
    (F__law_is : Fun K "_law_is" "_law_is" S__law_is f__law_is fd__law_is) (b__law_is : Binds K fd__law_is ["_law_train", "_law_wheels", "_law_got", "_law_due_here"] []) (g__law_is : mg "_law_is" = some (.ref f__law_is)) (G__law_is : FnOk P w K mg base CX0 1 f__law_is fd__law_is ["_law_train", "_law_wheels", "_law_got", "_law_due_here"] (sp__law_is K))
    (F__law_net : Fun K "_law_net" "_law_net" S__law_net f__law_net fd__law_net) (b__law_net : Binds K fd__law_net ["_law_train", "_law_row"] []) (g__law_net : mg "_law_net" = some (.ref f__law_net)) (G__law_net : FnOk P w K mg base CX0 1 f__law_net fd__law_net ["_law_train", "_law_row"] (sp__law_net K))
    (F__law_due : Fun K "_law_due" "_law_due" S__law_due f__law_due fd__law_due) (b__law_due : Binds K fd__law_due ["_law_wheels", "_law_stand", "_law_net_here", "_law_many"] []) (g__law_due : mg "_law_due" = some (.ref f__law_due)) (G__law_due : FnOk P w K mg base CX0 1 f__law_due fd__law_due ["_law_wheels", "_law_stand", "_law_net_here", "_law_many"] (sp__law_due K))
    (F__law_far : Fun K "_law_far" "_law_far" S__law_far f__law_far fd__law_far) (b__law_far : Binds K fd__law_far ["_law_draws_here", "_law_most"] []) (g__law_far : mg "_law_far" = some (.ref f__law_far)) (G__law_far : FnOk P w K mg base CX0 2 f__law_far fd__law_far ["_law_draws_here", "_law_most"] (sp__law_far K))
    (F__law_places : Fun K "_law_places" "_law_places" S__law_places f__law_places fd__law_places) (b__law_places : Binds K fd__law_places ["_law_part"] []) (g__law_places : mg "_law_places" = some (.ref f__law_places)) (G__law_places : FnOk P w K mg base CX0 1 f__law_places fd__law_places ["_law_part"] (sp__law_places K)) :
    FnOk P w K mg base CX0 7 f fd ["_law_draws_here", "_law_train", "_law_wheels", "_law_stand", "_law_row"] (sp__law_often_holds K) := by
  refine F.ok sc__law_often_holds (fun vs H Q E h => ?_) (fun cdv A outer s H vs Q E hr h => ?_)
  ·
    obtain ⟨D, a, w0, t, b, c, ws, qs, xs, ys, ds, rfl, _⟩ := h
    rfl
  ·
    obtain ⟨D, a, w0, t, b, c, ws, qs, xs, ys, ds, rfl, hD, hc, ⟨tv, ha, hta⟩, ⟨wv, hw0, hwd⟩, hw, w1, pl, hs, hs2, ht, ⟨rv, hb, hrd⟩, dl, hds, pb, q⟩ := h
    refine ⟨_, (pss_cons (ps_set (i := 5) sc__law_often_holds.nd rfl (.inl rfl) pe_int)
      (pss_cons (ps_for PassesOwn.never rfl (pi_list (pv 1)) (pg_name (i := 6) sc__law_often_holds.nd rfl (.inl rfl))
      (pss_one (ps_set (i := 5) sc__law_often_holds.nd rfl (.inl rfl) (pe_op op_mulW (pv 5) (pe_call G__law_places (hr.mono (by decide)) (by rfl) g__law_places F__law_places.kp b__law_places .nil pass0 (pa_cons (pv 6) pa_nil))))))
      (pss_cons (ps_set (i := 7) sc__law_often_holds.nd rfl (.inl rfl) (pe_call G__law_far (hr.mono (by decide)) (by rfl) g__law_far F__law_far.kp b__law_far .nil pass0 (pa_cons (pv 0) (pa_cons (pe_op op_powB pe_int pe_int) pa_nil))))
      (pss_cons (ps_if (pt_cmpR op_gt (pv 5) pe_int (nomark _)) (pss_one (ps_ret pe_bl)) pss_nil)
      (pss_cons (ps_set (i := 8) sc__law_often_holds.nd rfl (.inl rfl) (pe_call G__law_due (hr.mono (by decide)) (by rfl) g__law_due F__law_due.kp b__law_due .nil pass0 (pa_cons (pv 2) (pa_cons (pv 3) (pa_cons (pe_call G__law_net (hr.mono (by decide)) (by rfl) g__law_net F__law_net.kp b__law_net .nil pass0 (pa_cons (pv 1) (pa_cons (pv 4) pa_nil))) (pa_cons (pv 7) pa_nil))))))
      (pss_one (ps_ret (pe_call G__law_is (hr.mono (by decide)) (by rfl) g__law_is F__law_is.kp b__law_is .nil pass0 (pa_cons (pv 1) (pa_cons (pv 2) (pa_cons (pe_call G_left_often (hr.mono (by decide)) (by rfl) g_left_often F_left_often.kp b_left_often .nil pass0 (pa_cons (pv 1) (pa_cons (pv 3) (pa_cons (pv 4) (pa_cons (pv 7) pa_nil))))) (pa_cons (pv 8) pa_nil)))))))))))), ?_⟩
    refine w_st (σ' := [some (.ref D), some (.ref a), some (.ref w0), some (.ref t), some (.ref b), none, none, none, none]) rfl ?_
    have tvl : tv.length = (ws ++ qs).length := by rw [dpAll_len hta, List.length_map]
    have wvl : wv.length = ws.length := by rw [dpAll_len hwd, List.length_map]
    have hsA : StandL (ws ++ qs) (xs ++ ys) := standL_app hs hs2
    walk_at "ct"
    refine w_IL (.of ha) ?_
    refine fb_list tv (fun j σ G => ∃ (y6 : Option V), σ = [some (.ref D), some (.ref a), some (.ref w0), some (.ref t), some (.ref b), some (.int (prodZ ((ws ++ qs).take j) : Int)), y6, none, none] ∧ Same H G) ⟨none, rfl, Same.refl _⟩ ?_ ?_ ?_
    · rintro j σ G _ ⟨y6, rfl, sG⟩
      exact .of (sG _ _ ha)
    · rintro j x σ G hx ⟨y6, rfl, sG⟩
      have hj : j < tv.length := (List.getElem?_eq_some_iff.mp hx).1
      obtain ⟨p, hp⟩ : ∃ p, (ws ++ qs)[j]? = some p := ⟨_, List.getElem?_eq_getElem (by omega)⟩
      obtain ⟨x', hx', hdp⟩ := dpAll_get hta (i := j) (d := p.data) (by rw [List.getElem?_map, hp]; rfl)
      cases Option.some.inj (hx.symm.trans hx')
      have pm := List.mem_of_getElem? hp
      have pok : p.ok := hsA.okp _ pm
      have pos := pok.pos.1
      have pp40 := pb p pm
      have pz := prodZ_small (l := (ws ++ qs).take j) fun q hq => pb q (List.mem_of_mem_take hq)
      have tl : ((ws ++ qs).take j).length ≤ 10 := by rw [List.length_take]; omega
      have pz2 : prodZ ((ws ++ qs).take j) < 2 ^ 1400 := Nat.lt_of_lt_of_le pz (Nat.pow_le_pow_right (by decide) (by omega))
      have et : (ws ++ qs).take (j + 1) = (ws ++ qs).take j ++ [p] := by rw [List.take_add_one, hp]; rfl
      walk_at "ct"
      refine ⟨_, p, rfl, dp_same sG hdp, fun G1 s1 => ?_⟩
      refine w_rIv (.int ((prodZ ((ws ++ qs).take j) : Int) * p.places)) (wide_mul (a := 1400) (b := 140) (by rw [Int.natAbs_natCast]; exact pz2) (by omega) (by decide) (by decide) (by decide)) rfl ?_
      walk_at "ct"
      refine ⟨some x, ?_, sG.trans s1⟩
      rw [et, prodZ_app, Int.natCast_mul, Int.toNat_of_nonneg (by omega)]
    · rintro σ G ⟨y6, rfl, sG⟩
      rw [List.take_of_length_le (by omega)]
      walk_at "ct"
      refine w_rIv (.int (10 ^ 30)) ⟨by decide, by decide⟩ rfl ?_
      walk_at "ct"
      refine ⟨D, c, _, rfl, sG _ _ hD, by omega, by decide, fun n c1 G1 d1 c1l n0 n1 => ?_⟩
      have dH : Dr D c1 H G1 := ((Dr.refl hD).same sG).trans d1
      have ha1 := dH.at hD ha
      have hta1 := dH.all hD hta
      have hw1 := dH.at hD hw0
      have hwd1 := dH.all hD hwd
      have ht1 := dH.at hD ht
      have hb1 := dH.at hD hb
      have hrd1 := dH.all hD hrd
      walk_at "ct"
      refine w_ite (fun _ => ?_) (fun le => ?_)
      · walk_at "ct"
        exact q _ _ dH c1l
      obtain ⟨nn, rfl⟩ : ∃ nn : Nat, n = nn := ⟨n.toNat, by omega⟩
      walk_at "ct"
      refine ⟨a, b, (ws ++ qs).length, tv, rv, ds, rfl, .of ha1, tvl, by omega, .of hb1, hrd1, by omega, fun d hd => ⟨(hds d hd).1, Nat.lt_trans (hds d hd).2 (by decide)⟩, fun l G2 s2 nl hl => ?_⟩
      walk_at "ct"
      have hl' : G2 l = some (.lst (((List.range (ws ++ qs).length).map (netF ds)).map V.int)) := by rw [hl, List.map_map]; rfl
      refine ⟨w0, t, l, ws, xs ++ ys, _, fun j => nn * netF ds j, (nn : Int), rfl, ⟨wv, .of (s2 _ _ hw1), dpAll_same s2 hwd1⟩, hw, hs.okp, by rw [List.length_append] at pl; omega, .of (s2 _ _ ht1), by rw [List.length_append, hs.len]; omega, ?_, .of hl', by rw [List.length_map, List.length_range, List.length_append]; omega, ?_, by omega, ?_, fun u g G3 s3 hu hg => ?_⟩
      · intro x hx
        obtain ⟨i, hi⟩ := List.mem_iff_getElem?.mp hx
        have := hsA.ok
        exact stand_lt hsA x hx
      · intro x hx
        obtain ⟨j, _, rfl⟩ := List.mem_map.mp hx
        have := netF_abs (B := 10 ^ 39) j (ds := ds) fun d hd => ⟨(hds d hd).1.2, Nat.le_of_lt (hds d hd).2⟩
        exact Nat.lt_of_le_of_lt (Nat.le_trans this (Nat.mul_le_mul_right _ dl)) (by decide)
      · intro j hj
        refine ⟨netF ds j, ?_, Int.mul_comm _ _⟩
        rw [List.getElem?_map, List.getElem?_range (by rw [List.length_append]; omega)]
        rfl
      have s23 := s2.trans s3
      walk_at "ct"
      refine ⟨a, t, b, ws ++ qs, xs ++ ys, ds, nn, rfl, ⟨tv, .of (s23 _ _ ha1), dpAll_same s23 hta1⟩, hsA, by rw [List.length_append]; omega, by omega, by rw [stands_prodZ hsA.okp]; omega, s23 _ _ ht1, ⟨rv, .of (s23 _ _ hb1), dpAll_same s23 hrd1⟩, by omega, fun d hd => ⟨(hds d hd).1, Nat.lt_trans (hds d hd).2 (by decide)⟩, by omega, fun qa ua G4 s4 nq hua hqa => ?_⟩
      have s14 := s23.trans s4
      have el : dueF ws (xs ++ ys) (fun j => nn * netF ds j) 0 0 = dueF ws xs (fun j => nn * netF ds j) 0 0 := dueF_more hs _ _ _ _
      rw [el] at hu hg
      obtain ⟨ys', ey⟩ := often_head (ys := ys) hw hs (fun d hd => (hds d hd).1) nn
      have il : (itR (ws ++ qs) ds nn (xs ++ ys)).1.length = (ws ++ qs).length := (itR_stand hsA (fun d hd => (hds d hd).1) nn).len
      walk_at "ct"
      refine ⟨a, w0, qa, ua, g, u, tv, wv, _, _, _, _, rfl, .of (s14 _ _ ha1), .of (s14 _ _ hw1), by rw [tvl, wvl, List.length_append]; omega, by omega, .of hqa, .of hua, il.trans tvl.symm, .of (s4 _ _ hg), .of (s4 _ _ hu), ?_, ?_, fun G5 s5 => ?_⟩
      · rw [ey, wvl, List.take_append_of_le_length (by rw [dueF_len _ _ _ hw hs]; omega), List.take_of_length_le (by rw [dueF_len _ _ _ hw hs]; omega)]
      · intro e
        rw [wvl, tvl, List.length_append] at e
        have q0 : qs = [] := List.eq_nil_of_length_eq_zero (by omega)
        subst q0
        have y0 : ys = [] := by cases ys with
          | nil => rfl
          | cons _ _ => exact hs2.elim
        subst y0
        rw [List.append_nil, List.append_nil, often_net hw hs (fun d hd => by have := (hds d hd).1; rw [List.append_nil] at this; exact this)]
      · exact q _ _ (dH.same (s14.trans s5)) c1l
abbrev S__law_right : Stmt := topS 42
theorem sc__law_right : FnScope ["_law_draws_here", "_law_train", "_law_wheels", "_law_stand", "_law_row", "_law_due_here", "_law_rows_here", "_law_one", "_law_handed", "_law_got", "_law_back", "_law_k", "_law_i", "_law_way", "_law_times"] ["_law_draws_here", "_law_train", "_law_wheels", "_law_stand"] (defScope S__law_right) := ⟨rfl, rfl, rfl, by decide +kernel, rfl, by decide +kernel, by decide +kernel⟩
def sp__law_right (K : PySem.W.Frag) : Sp := fun vs H Q _ => ∃ (D a w0 t : Addr) (c : Nat) (ws qs : List Part) (xs ys : List Int), vs = [.ref D, .ref a, .ref w0, .ref t] ∧ H D = some (DrO D c) ∧ c ≤ 860000 ∧ (∃ tv, H a = some (.lst tv) ∧ DpAll K H tv ((ws ++ qs).map Part.data)) ∧ (∃ wv, H w0 = some (.lst wv) ∧ DpAll K H wv (ws.map Part.data)) ∧ Wheels ws ∧ 1 ≤ ws.length ∧ (ws ++ qs).length ≤ 10 ∧ StandL ws xs ∧ StandL qs ys ∧ H t = some (.tup ((xs ++ ys).map V.int)) ∧ (∀ p ∈ ws ++ qs, p.places ≤ 10 ^ 40) ∧
  ∀ c' H', Dr D c' H H' → c' ≤ c + 600 → Q (.bl true) H'
theorem ok__law_right {f : Addr} {fd : FuncData} {f__law_often_holds : Addr} {fd__law_often_holds : FuncData} {f_left : Addr} {fd_left : FuncData} {f__law_is : Addr} {fd__law_is : FuncData} {f__law_next : Addr} {fd__law_next : FuncData} {f__law_rows : Addr} {fd__law_rows : FuncData} {f__law_net : Addr} {fd__law_net : FuncData} {f__law_due : Addr} {fd__law_due : FuncData} {f__law_deed : Addr} {fd__law_deed : FuncData} (F : Fun K "_law_right" "_law_right" S__law_right f fd)
    (F__law_often_holds : Fun K "_law_often_holds" "_law_often_holds" S__law_often_holds f__law_often_holds fd__law_often_holds) (b__law_often_holds : Binds K fd__law_often_holds ["_law_draws_here", "_law_train", "_law_wheels", "_law_stand", "_law_row"] []) (g__law_often_holds : mg "_law_often_holds" = some (.ref f__law_often_holds)) (G__law_often_holds : FnOk P w K mg base CX0 7 f__law_often_holds fd__law_often_holds ["_law_draws_here", "_law_train", "_law_wheels", "_law_stand", "_law_row"] (sp__law_often_holds K))
    (F_left : Fun K "left" "left" S_left f_left fd_left) (b_left : Binds K fd_left ["train", "stand", "row"] []) (g_left : mg "left" = some (.ref f_left)) (G_left : FnOk P w K mg base CX0 6 f_left fd_left ["train", "stand", "row"] (sp_left K))
    (F__law_is : Fun K "_law_is" "_law_is" S__law_is f__law_is fd__law_is) (b__law_is : Binds K fd__law_is ["_law_train", "_law_wheels", "_law_got", "_law_due_here"] []) (g__law_is : mg "_law_is" = some (.ref f__law_is)) (G__law_is : FnOk P w K mg base CX0 1 f__law_is fd__law_is ["_law_train", "_law_wheels", "_law_got", "_law_due_here"] (sp__law_is K))
    (F__law_next : Fun K "_law_next" "_law_next" S__law_next f__law_next fd__law_next) (b__law_next : Binds K fd__law_next ["_law_draws_here"] []) (g__law_next : mg "_law_next" = some (.ref f__law_next)) (G__law_next : FnOk P w K mg base CX0 1 f__law_next fd__law_next ["_law_draws_here"] (sp__law_next K))
    (F__law_rows : Fun K "_law_rows" "_law_rows" S__law_rows f__law_rows fd__law_rows) (b__law_rows : Binds K fd__law_rows ["_law_draws_here", "_law_train", "_law_row"] []) (g__law_rows : mg "_law_rows" = some (.ref f__law_rows)) (G__law_rows : FnOk P w K mg base CX0 4 f__law_rows fd__law_rows ["_law_draws_here", "_law_train", "_law_row"] (sp__law_rows K))
    (F__law_net : Fun K "_law_net" "_law_net" S__law_net f__law_net fd__law_net) (b__law_net : Binds K fd__law_net ["_law_train", "_law_row"] []) (g__law_net : mg "_law_net" = some (.ref f__law_net)) (G__law_net : FnOk P w K mg base CX0 1 f__law_net fd__law_net ["_law_train", "_law_row"] (sp__law_net K))
    (F__law_due : Fun K "_law_due" "_law_due" S__law_due f__law_due fd__law_due) (b__law_due : Binds K fd__law_due ["_law_wheels", "_law_stand", "_law_net_here", "_law_many"] []) (g__law_due : mg "_law_due" = some (.ref f__law_due)) (G__law_due : FnOk P w K mg base CX0 1 f__law_due fd__law_due ["_law_wheels", "_law_stand", "_law_net_here", "_law_many"] (sp__law_due K))
    (F__law_deed : Fun K "_law_deed" "_law_deed" S__law_deed f__law_deed fd__law_deed) (b__law_deed : Binds K fd__law_deed ["_law_draws_here", "_law_train"] []) (g__law_deed : mg "_law_deed" = some (.ref f__law_deed)) (G__law_deed : FnOk P w K mg base CX0 3 f__law_deed fd__law_deed ["_law_draws_here", "_law_train"] (sp__law_deed K)) (m_range : mg "range" = none) (m_list : mg "list" = none) (m_len : mg "len" = none) :
    FnOk P w K mg base CX0 8 f fd ["_law_draws_here", "_law_train", "_law_wheels", "_law_stand"] (sp__law_right K) := by
  refine F.ok sc__law_right (fun vs H Q E h => ?_) (fun cdv A outer s H vs Q E hr h => ?_)
  ·
    obtain ⟨D, a, w0, t, c, ws, qs, xs, ys, rfl, _⟩ := h
    rfl
  ·
    obtain ⟨D, a, w0, t, c, ws, qs, xs, ys, rfl, hD, hc, ⟨tv, ha, hta⟩, ⟨wv, hw0, hwd⟩, hw, w1, pl, hs, hs2, ht, pb, q⟩ := h
    refine ⟨_, (pss_cons (ps_setLc (i := 4) (own := [("_law_k", 11)]) (g := gName 11)  rfl sc__law_right.nd rfl rfl (sw_true rfl rfl rfl (by decide +kernel)) (pi_range1 (by rfl) m_range (pa_cons (pe_op op_mod (pe_call G__law_next (hr.mono (by decide)) (by rfl) g__law_next F__law_next.kp b__law_next .nil pass0 (pa_cons (pv 0) pa_nil)) pe_int) pa_nil)) (blkOk_by (own := [("_law_k", 11)]) (N := ["_law_draws_here", "_law_train", "_law_wheels", "_law_stand", "_law_row", "_law_due_here", "_law_rows_here", "_law_one", "_law_handed", "_law_got", "_law_back", "_law_k", "_law_i", "_law_way", "_law_times"]) (sc := defScope S__law_right) (by decide +kernel)) (fun _ _ _ _ _ => pg_name (i := 11) sc__law_right.nd rfl (Or.inl rfl)) (fun _ _ _ _ _ => pts_nil) (fun _ _ _ _ _ => (pe_call G__law_deed (hr.mono (by decide)) (by rfl) g__law_deed F__law_deed.kp b__law_deed .nil pass0 (pa_cons (pv 0) (pa_cons (pv 1) pa_nil)))))
      (pss_cons (ps_set (i := 5) sc__law_right.nd rfl (.inl rfl) (pe_call G__law_due (hr.mono (by decide)) (by rfl) g__law_due F__law_due.kp b__law_due .nil pass0 (pa_cons (pv 2) (pa_cons (pv 3) (pa_cons (pe_call G__law_net (hr.mono (by decide)) (by rfl) g__law_net F__law_net.kp b__law_net .nil pass0 (pa_cons (pv 1) (pa_cons (pv 4) pa_nil))) (pa_cons pe_int pa_nil))))))
      (pss_cons (ps_set (i := 6) sc__law_right.nd rfl (.inl rfl) (pe_call G__law_rows (hr.mono (by decide)) (by rfl) g__law_rows F__law_rows.kp b__law_rows .nil pass0 (pa_cons (pv 0) (pa_cons (pv 1) (pa_cons (pv 4) pa_nil)))))
      (pss_cons (ps_for PassesOwn.never rfl (pi_list (pv 6)) (pg_name (i := 7) sc__law_right.nd rfl (.inl rfl))
      (pss_cons (ps_set (i := 8) sc__law_right.nd rfl (.inl rfl) (pe_tup (pa_cons (pe_callTy call_list_of (by rfl) m_list (by decide +kernel) (pa_cons (pv 1) pa_nil)) (pa_cons (pe_callTy call_list_of (by rfl) m_list (by decide +kernel) (pa_cons (pv 7) pa_nil)) pa_nil))))
      (pss_cons (ps_set (i := 9) sc__law_right.nd rfl (.inl rfl) (pe_call G_left (hr.mono (by decide)) (by rfl) g_left F_left.kp b_left .nil pass0 (pa_cons (pe_ix (r := rIxT K) ix_tup (pv 8) pe_int (fun _ _ => rfl)) (pa_cons (pv 3) (pa_cons (pe_ix (r := rIxT K) ix_tup (pv 8) pe_int (fun _ _ => rfl)) pa_nil)))))
      (pss_one (ps_if (PW.pt (pw_or (pt_not (pt_val (pe_call G__law_is (hr.mono (by decide)) (by rfl) g__law_is F__law_is.kp b__law_is .nil pass0 (pa_cons (pv 1) (pa_cons (pv 2) (pa_cons (pv 9) (pa_cons (pv 5) pa_nil))))))) (pw_or1 (pt_cmpR (r := rNeD K) (op_neD hr.units) (pv 8) (pe_tup (pa_cons (pv 1) (pa_cons (pv 7) pa_nil))) (nomark _))))) (pss_one (ps_ret pe_bl)) pss_nil)))))
      (pss_cons (ps_setLc (i := 10) (own := [("_law_i", 12), ("_law_way", 13), ("_law_times", 14)]) (g := gTup K 3 (gCons (gName 12) (gCons (gName 13) (gCons (gName 14) gNil))))  rfl sc__law_right.nd rfl rfl (sw_true rfl rfl rfl (by decide +kernel)) (pi_list (pe_ix (r := rIxL K) ix_list (pv 6) (pe_op op_mod (pe_call G__law_next (hr.mono (by decide)) (by rfl) g__law_next F__law_next.kp b__law_next .nil pass0 (pa_cons (pv 0) pa_nil)) pe_int) (fun _ _ => rfl))) (blkOk_by (own := [("_law_i", 12), ("_law_way", 13), ("_law_times", 14)]) (N := ["_law_draws_here", "_law_train", "_law_wheels", "_law_stand", "_law_row", "_law_due_here", "_law_rows_here", "_law_one", "_law_handed", "_law_got", "_law_back", "_law_k", "_law_i", "_law_way", "_law_times"]) (sc := defScope S__law_right) (by decide +kernel)) (fun _ _ _ _ _ => pg_tup rfl (pgs_cons (pg_name (i := 12) sc__law_right.nd rfl (Or.inl rfl)) (pgs_cons (pg_name (i := 13) sc__law_right.nd rfl (Or.inl rfl)) (pgs_cons (pg_name (i := 14) sc__law_right.nd rfl (Or.inl rfl)) pgs_nil)))) (fun _ _ _ _ _ => pts_nil) (fun _ _ _ _ _ => (pe_tup (pa_cons (pv 12) (pa_cons (pe_op op_sub pe_int (pv 13)) (pa_cons (pv 14) pa_nil))))))
      (pss_cons (ps_set (i := 9) sc__law_right.nd rfl (.inl rfl) (pe_call G_left (hr.mono (by decide)) (by rfl) g_left F_left.kp b_left .nil pass0 (pa_cons (pv 1) (pa_cons (pv 3) (pa_cons (pv 4) pa_nil)))))
      (pss_cons (ps_if (pt_not (pt_val (pe_call G__law_is (hr.mono (by decide)) (by rfl) g__law_is F__law_is.kp b__law_is .nil pass0 (pa_cons (pv 1) (pa_cons (pv 2) (pa_cons (pe_call G_left (hr.mono (by decide)) (by rfl) g_left F_left.kp b_left .nil pass0 (pa_cons (pv 1) (pa_cons (pe_ix (r := rIxT K) ix_tup (pv 9) pe_int (fun _ _ => rfl)) (pa_cons (pv 10) pa_nil)))) (pa_cons (pe_tup (pa_cons (pe_slice (r := rSlA K) sl_tupA (pv 3) po_none (po_some (pe_callB call_len_seq (by rfl) m_len (by decide +kernel) (pa_cons (pv 2) pa_nil)))) (pa_cons (pe_op op_sub pe_int (pe_ix (r := rIxT K) ix_tup (pv 5) pe_int (fun _ _ => rfl))) pa_nil))) pa_nil))))))) (pss_one (ps_ret pe_bl)) pss_nil)
      (pss_one (ps_ret (pe_call G__law_often_holds (hr.mono (by decide)) (by rfl) g__law_often_holds F__law_often_holds.kp b__law_often_holds .nil pass0 (pa_cons (pv 0) (pa_cons (pv 1) (pa_cons (pv 2) (pa_cons (pv 3) (pa_cons (pv 4) pa_nil))))))))))))))), ?_⟩
    refine w_st (σ' := [some (.ref D), some (.ref a), some (.ref w0), some (.ref t), none, none, none, none, none, none, none, none, none, none, none]) rfl ?_
    have tvl : tv.length = (ws ++ qs).length := by rw [dpAll_len hta, List.length_map]
    have wvl : wv.length = ws.length := by rw [dpAll_len hwd, List.length_map]
    have hsA : StandL (ws ++ qs) (xs ++ ys) := standL_app hs hs2
    have al : (ws ++ qs).length = ws.length + qs.length := List.length_append
    walk_at "ct"
    refine ⟨D, c, rfl, hD, by omega, fun n1 _ _ => ?_⟩
    have d1 := Dr.step hD (c + 1)
    generalize upd H D _ = H1 at *
    walk_at "ct"
    refine w_mod (by decide) fun k9 k90 k91 => ?_
    walk_at "ct"
    refine w_RG1 (by omega) (by omega) ?_
    refine lb_range (fun A k G => ∃ (cG : Nat) (rv : List V) (ds : List Deed), Dr D cG H1 G ∧ cG ≤ c + 1 + 11 * k ∧ G A = some (.lst rv) ∧ DpAll K G rv (ds.map Deed.data) ∧ ds.length = k ∧ ∀ d ∈ ds, d.ok (ws ++ qs).length ∧ d.t < 10 ^ 39) (fun A nA => ⟨c + 1, [], [], (Dr.refl d1.2).same (same_upd nA), by omega, upd_same, .nil, rfl, fun _ h => nomatch h⟩) ?_ ?_
    · rintro A nA k G hk ⟨cG, rv, ds, dG, cGl, hA, hrd, dl, hds⟩
      have hk9 : k < 9 := by omega
      have rl : rv.length = k := by rw [dpAll_len hrd, List.length_map, dl]
      walk_at "ct"
      refine ⟨rfl, ?_⟩
      walk_at "ct"
      have haG := (d1.trans dG).at hD ha
      refine ⟨D, a, cG, tv, rfl, dG.2, by omega, .of haG, haG, by omega, fun g dd c3 G3 d3 c3l ng hg di dw dt => ?_⟩
      have hA3 := d3.at dG.2 hA
      refine ⟨rv, hA3, small1000 (by omega), c3, rv ++ [.ref g], ds ++ [dd], (dG.trans d3).put nA hA3, by omega, upd_same, ?_, by rw [List.length_append, dl]; rfl, fun d hd => ?_⟩
      · rw [List.map_append]
        exact dpAll_app (deeds_upd hA3 _ (d3.all dG.2 hrd)) (deeds_upd hA3 [dd] (.cons (deed_dpN hg) .nil))
      · rcases List.mem_append.mp hd with hd | hd
        · exact hds d hd
        · rw [List.mem_singleton.mp hd]
          exact ⟨⟨by omega, dw⟩, dt⟩
    rintro A nA G2 ⟨c2, rv, ds, d2, c2l, hA2, hrd2, dl, hds⟩
    have dl8 : ds.length ≤ 8 := by omega
    have c2b : c2 ≤ c + 100 := by omega
    have dH2 := d1.trans d2
    clear d1 d2 c2l nA
    have ha2 := dH2.at hD ha
    have hw2 := dH2.at hD hw0
    have ht2 := dH2.at hD ht
    have hta2 := dH2.all hD hta
    have hwd2 := dH2.all hD hwd
    have hdk : ∀ d ∈ ds, d.ok (ws ++ qs).length := fun d hd => (hds d hd).1
    walk_at "ct"
    refine ⟨a, A, (ws ++ qs).length, tv, rv, ds, rfl, .of ha2, tvl, by omega, .of hA2, hrd2, by omega, fun d hd => ⟨(hds d hd).1, Nat.lt_trans (hds d hd).2 (by decide)⟩, fun l G3 s3 nl hl => ?_⟩
    walk_at "ct"
    have hl' : G3 l = some (.lst (((List.range (ws ++ qs).length).map (netF ds)).map V.int)) := by rw [hl, List.map_map]; rfl
    refine ⟨w0, t, l, ws, xs ++ ys, _, netF ds, 1, rfl, ⟨wv, .of (s3 _ _ hw2), dpAll_same s3 hwd2⟩, hw, hs.okp, by omega, .of (s3 _ _ ht2), by rw [List.length_append, hs.len]; omega, stand_lt hsA, .of hl', by rw [List.length_map, List.length_range]; omega, ?_, by decide, ?_, fun u g G4 s4 hu hg => ?_⟩
    · intro x hx
      obtain ⟨j, _, rfl⟩ := List.mem_map.mp hx
      have := netF_abs (B := 10 ^ 39) j (ds := ds) fun d hd => ⟨(hds d hd).1.2, Nat.le_of_lt (hds d hd).2⟩
      exact Nat.lt_of_le_of_lt (Nat.le_trans this (Nat.mul_le_mul_right _ dl8)) (by decide)
    · intro j hj
      refine ⟨netF ds j, ?_, (Int.mul_one _).symm⟩
      rw [List.getElem?_map, List.getElem?_range (by omega)]
      rfl
    have s24 := s3.trans s4
    have el : dueF ws (xs ++ ys) (netF ds) 0 0 = dueF ws xs (netF ds) 0 0 := dueF_more hs _ _ _ _
    rw [el] at hu hg
    have dH4 := dH2.same s24
    have hA4 := s24 _ _ hA2
    have hrd4 := dpAll_same s24 hrd2
    clear s3 s4 hl hl' nl ha2 hw2 ht2 hta2 hwd2 hA2 hrd2 el s24
    walk_at "ct"
    refine ⟨D, a, A, c2, (ws ++ qs).length, tv, rv, ds, rfl, dH4.2, by omega, dH4.at hD ha, tvl, by omega, pl, hA4, hrd4, dl8, hds, fun L os c5 G5 d5 c5l hL osl hos => ?_⟩
    have hu5 := d5.at dH4.2 hu
    have hg5 := d5.at dH4.2 hg
    have hA5 := d5.at dH4.2 hA4
    have hrd5 := d5.all dH4.2 hrd4
    have dH5 := dH4.trans d5
    clear hu hg hA4 hrd4 dH4 d5 dH2
    have ha5 := dH5.at hD ha
    have hw5 := dH5.at hD hw0
    have ht5 := dH5.at hD ht
    have hta5 := dH5.all hD hta
    have hwd5 := dH5.all hD hwd
    have smt : ∀ d : Deed, d.t < 2 ^ 150 → d.t < 2 ^ 200 := fun d h => Nat.lt_trans h (by decide)
    walk_at "ct"
    refine w_IL (.of hL) ?_
    refine fb_list (os.map V.ref) (fun k σ G => ∃ (y7 y8 y9 : Option V), σ = [some (.ref D), some (.ref a), some (.ref w0), some (.ref t), some (.ref A), some (.ref g), some (.ref L), y7, y8, y9, none, none, none, none, none] ∧ Same G5 G) ⟨none, none, none, rfl, Same.refl _⟩ ?_ ?_ ?_
    · rintro k σ G _ ⟨y7, y8, y9, rfl, sG⟩
      exact .of (sG _ _ hL)
    · rintro k x σ G hx ⟨y7, y8, y9, rfl, sG⟩
      obtain ⟨o, ho, rfl⟩ : ∃ o, os[k]? = some o ∧ x = .ref o := by
        rw [List.getElem?_map] at hx
        cases e : os[k]? with
        | none => rw [e] at hx; cases hx
        | some c => rw [e] at hx; exact ⟨c, rfl, (Option.some.inj hx).symm⟩
      obtain ⟨uv, es, ho1, huv, esl, hes, hnet⟩ := (hos o (List.mem_of_getElem? ho)).same sG
      have haG := sG _ _ ha5
      walk_at "ct"
      refine ⟨a, tv, rfl, .inl (.of haG), fun b1 nb1 => ?_⟩
      have v1 : Same G (upd G b1 (.lst tv)) := same_upd nb1
      have hb1 : (upd G b1 (.lst tv)) b1 = some (.lst tv) := upd_same
      generalize upd G b1 _ = J1 at *
      walk_at "ct"
      refine ⟨o, uv, rfl, .inl (.of (v1 _ _ ho1)), fun b2 nb2 => ?_⟩
      have v2 : Same J1 (upd J1 b2 (.lst uv)) := same_upd nb2
      have hb2 : (upd J1 b2 (.lst uv)) b2 = some (.lst uv) := upd_same
      generalize upd J1 b2 _ = J2 at *
      walk_at "ct"
      refine ⟨len2 rfl, fun b3 nb3 => ?_⟩
      have v3 : Same J2 (upd J2 b3 (.tup [.ref b1, .ref b2])) := same_upd nb3
      have hb3 : (upd J2 b3 (.tup [.ref b1, .ref b2])) b3 = some (.tup [.ref b1, .ref b2]) := upd_same
      generalize upd J2 b3 _ = J3 at *
      have hb13 := (v2.trans v3) _ _ hb1
      have hb23 := v3 _ _ hb2
      have x03 := v1.trans (v2.trans v3)
      have x53 := sG.trans x03
      have huv3 := dpAll_same x03 huv
      have hta3 := dpAll_same x53 hta5
      clear hb1 hb2 v1 v2 v3
      walk_at "ct"
      refine w_ixT (.of hb3) at0 ?_
      walk_at "ct"
      refine w_ixT (.of hb3) at1 ?_
      walk_at "ct"
      refine ⟨b1, t, b2, ws ++ qs, xs ++ ys, es, rfl, ⟨tv, .of hb13, hta3⟩, hsA, by omega, by omega, .of (x53 _ _ ht5), ⟨uv, .of hb23, huv3⟩, fun d hd => ⟨(hes d hd).1, smt d (hes d hd).2⟩, fun q1 u1 J4 s4 _ _ hu4 hq4 => ?_⟩
      have x54 := x53.trans s4
      have hek : ∀ d ∈ es, d.ok (ws ++ qs).length := fun d hd => (hes d hd).1
      have il : (rowL (ws ++ qs) es (xs ++ ys, 0)).1.length = (ws ++ qs).length := (rowL_stand (s := (xs ++ ys, 0)) hsA hek).len
      walk_at "ct"
      refine ⟨a, w0, q1, u1, g, u, tv, wv, _, _, _, _, rfl, .of (x54 _ _ ha5), .of (x54 _ _ hw5), by omega, by omega, .of hq4, .of hu4, il.trans tvl.symm, .of (x54 _ _ hg5), .of (x54 _ _ hu5), by rw [wvl]; exact left_take hw hs hek hnet, fun e => left_sum hw hs hs2 hek hnet (by rw [← tvl, ← wvl]; exact e), fun J5 s5 => ?_⟩
      have x55 := x54.trans s5
      have x35 := s4.trans s5
      walk_at "ct"
      refine ⟨len2 rfl, fun b6 nb6 => ?_⟩
      have v6 : Same J5 (upd J5 b6 (.tup [.ref a, .ref o])) := same_upd nb6
      have hb6 : (upd J5 b6 (.tup [.ref a, .ref o])) b6 = some (.tup [.ref a, .ref o]) := upd_same
      generalize upd J5 b6 _ = J6 at *
      have x36 := x35.trans v6
      have x56 := x55.trans v6
      refine w_neSame (.tuple [.list ((ws ++ qs).map Part.data), .list (es.map Deed.data)]) (n := 4) (.tup (.of (x36 _ _ hb3)) (.cons (.lst (.of (x36 _ _ hb13)) (dpAll_same x36 hta3)) (.cons (.lst (.of (x36 _ _ hb23)) (dpAll_same x36 huv3)) .nil))) (.tup (.of hb6) (.cons (.lst (.of (x56 _ _ ha5)) (dpAll_same x56 hta5)) (.cons (.lst (.of ((x03.trans x36) _ _ ho1)) (dpAll_same x36 huv3)) .nil))) (lay_tup (n := 3) fun d hd => by
        rcases List.mem_cons.mp hd with rfl | hd
        · exact lay_train _
        · rw [List.mem_singleton.mp hd]; exact lay_mono (lay_row _) (by decide)) (by decide) ?_
      walk_at "ct"
      exact ⟨_, _, _, rfl, x56⟩
    rintro σ G6 ⟨y7, y8, y9, rfl, s6⟩
    have dH6 := dH5.same s6
    walk_at "ct"
    refine ⟨D, c5, rfl, dH6.2, by omega, fun n7 _ _ => ?_⟩
    have st := Dr.step dH6.2 (c5 + 1)
    have hL7 := st.at dH6.2 (s6 _ _ hL)
    have hu7 := st.at dH6.2 (s6 _ _ hu5)
    have hg7 := st.at dH6.2 (s6 _ _ hg5)
    have hA7 := st.at dH6.2 (s6 _ _ hA5)
    have hrd7 := st.all dH6.2 (dpAll_same s6 hrd5)
    have dH7 := dH6.trans st
    have hos7 : ∀ o ∈ os, RowOf K (upd G6 D (DrO D (c5 + 1))) o (ws ++ qs).length ds := fun o ho => by
      obtain ⟨uv, es, h1, h2, h3⟩ := (hos o ho).same s6
      exact ⟨uv, es, st.at dH6.2 h1, st.all dH6.2 h2, h3⟩
    clear st dH6 s6 hu5 hg5 hA5 hrd5 dH5 ha5 hw5 ht5 hta5 hwd5 hL hos
    generalize upd G6 D _ = G7 at *
    have ha7 := dH7.at hD ha
    have hw7 := dH7.at hD hw0
    have ht7 := dH7.at hD ht
    have hta7 := dH7.all hD hta
    have hwd7 := dH7.all hD hwd
    walk_at "ct"
    refine w_mod (by decide) fun r r0 r1 => ?_
    obtain ⟨o, ho, hat⟩ : ∃ o, os[r.toNat]? = some o ∧ atI (os.map V.ref) r = some (.ref o) := by
      have lt : r.toNat < os.length := by omega
      exact ⟨os[r.toNat], List.getElem?_eq_getElem lt, at_of (j := r.toNat) (by omega) (by rw [List.getElem?_map, List.getElem?_eq_getElem lt]; rfl)⟩
    refine w_ixL (.of hL7) hat ?_
    obtain ⟨uv, es, ho1, huv, esl, hes, hnet⟩ := hos7 o (List.mem_of_getElem? ho)
    have uvl : uv.length = es.length := by rw [dpAll_len huv, List.length_map]
    refine w_IL (.of ho1) ?_
    refine lb_list uv (fun B k G => ∃ (bv : List V), Same G7 G ∧ G B = some (.lst bv) ∧ DpAll K G bv (((es.take k).map Deed.back).map Deed.data)) (fun B nB => ⟨[], same_upd nB, upd_same, .nil⟩) ?_ ?_ ?_
    · rintro B nB k G _ ⟨bv, sG, _⟩
      exact .of (sG _ _ ho1)
    · rintro B nB k x G hx ⟨bv, sG, hB, hbv⟩
      have hk : k < uv.length := (List.getElem?_eq_some_iff.mp hx).1
      obtain ⟨d, hdk⟩ : ∃ d, es[k]? = some d := ⟨_, List.getElem?_eq_getElem (by omega)⟩
      obtain ⟨x', hx', hdp⟩ := dpAll_get huv (i := k) (d := d.data) (by rw [List.getElem?_map, hdk]; rfl)
      cases Option.some.inj (hx.symm.trans hx')
      have bvl : bv.length = k := by rw [dpAll_len hbv, List.length_map, List.length_map, List.length_take]; omega
      obtain ⟨g1, rfl, hg1⟩ := tupD_inv (s := [(d.i : Int), d.w, (d.t : Int)]) (dp_same sG hdp)
      have hg1 : SqT K G g1 [.int (d.i : Int), .int d.w, .int (d.t : Int)] := hg1
      refine w_gtup hg1 rfl ?_
      walk_at "ct"
      refine ⟨rfl, ?_⟩
      walk_at "ct"
      refine ⟨len2 rfl, fun g2 ng2 => ?_⟩
      have v2 : Same G (upd G g2 (.tup [.int (d.i : Int), .int (0 - d.w), .int (d.t : Int)])) := same_upd ng2
      have hg2 : (upd G g2 (.tup [.int (d.i : Int), .int (0 - d.w), .int (d.t : Int)])) g2 = some (.tup [.int (d.i : Int), .int (0 - d.w), .int (d.t : Int)]) := upd_same
      generalize upd G g2 _ = J at *
      have hBJ := v2 _ _ hB
      refine ⟨bv, hBJ, small1000 (by omega), bv ++ [.ref g2], same_new (sG.trans v2) nB, upd_same, ?_⟩
      rw [List.take_add_one, hdk, List.map_append, List.map_append]
      exact dpAll_app (deeds_upd hBJ _ (dpAll_same v2 hbv)) (deeds_upd hBJ [d.back] (.cons (deed_dpN hg2) .nil))
    rintro B nB G8 ⟨bv, s8, hB8, hbv8⟩
    rw [List.take_of_length_le (by omega)] at hbv8
    have hbk : ∀ d ∈ es.map Deed.back, d.ok (ws ++ qs).length ∧ d.t < 2 ^ 200 := fun d hd => by
      obtain ⟨e, he, rfl⟩ := List.mem_map.mp hd
      exact ⟨⟨(hes e he).1.1, sign_back (hes e he).1.2⟩, smt e (hes e he).2⟩
    have hbn : ∀ j, netF (es.map Deed.back) j = - netF ds j := fun j => by rw [netF_backs, hnet j]
    walk_at "ct"
    refine ⟨a, t, A, ws ++ qs, xs ++ ys, ds, rfl, ⟨tv, .of (s8 _ _ ha7), dpAll_same s8 hta7⟩, hsA, by omega, by omega, .of (s8 _ _ ht7), ⟨rv, .of (s8 _ _ hA7), dpAll_same s8 hrd7⟩, fun d hd => ⟨(hds d hd).1, Nat.lt_trans (hds d hd).2 (by decide)⟩, fun q1 u1 G9 s9 _ _ hu9 hq9 => ?_⟩
    have x9 := s8.trans s9
    have hst : StandL (ws ++ qs) (rowL (ws ++ qs) ds (xs ++ ys, 0)).1 := rowL_stand (s := (xs ++ ys, 0)) hsA hdk
    walk_at "ct"
    refine w_ixT (.of hq9) at0 ?_
    walk_at "ct"
    refine ⟨a, u1, B, ws ++ qs, _, es.map Deed.back, rfl, ⟨tv, .of (x9 _ _ ha7), dpAll_same x9 hta7⟩, hst, by omega, by omega, .of hu9, ⟨bv, .of (s9 _ _ hB8), dpAll_same s9 hbv8⟩, hbk, fun q2 u2 G10 s10 _ _ hu10 hq10 => ?_⟩
    have x10 := x9.trans s10
    walk_at "ct"
    refine ⟨w0, wv, rfl, .inl (.of (x10 _ _ hw7)), ?_⟩
    walk_at "ct"
    refine w_slAt (.of (x10 _ _ ht7)) (by rw [List.length_append, hs.len]; omega) fun p1 G11 s11 hp1 => ?_
    rw [wvl, List.take_append_of_le_length (by rw [hs.len]; omega), List.take_of_length_le (by rw [hs.len]; omega)] at hp1
    have x11 := x10.trans s11
    have hg11 := x11 _ _ hg7
    walk_at "ct"
    refine w_ixT (.of hg11) at1 ?_
    walk_at "ct"
    refine ⟨len2 rfl, fun p2 np2 => ?_⟩
    have v12 : Same G11 (upd G11 p2 (.tup [.ref p1, .int (0 - (dueF ws xs (netF ds) 0 0).2)])) := same_upd np2
    have hp2 : (upd G11 p2 (.tup [.ref p1, .int (0 - (dueF ws xs (netF ds) 0 0).2)])) p2 = some (.tup [.ref p1, .int (0 - (dueF ws xs (netF ds) 0 0).2)]) := upd_same
    generalize upd G11 p2 _ = G12 at *
    have x12 := x11.trans v12
    have y12 := s11.trans v12
    have hbo : ∀ d ∈ es.map Deed.back, d.ok (ws ++ qs).length := fun d hd => (hbk d hd).1
    walk_at "ct"
    refine ⟨a, w0, q2, u2, p2, p1, tv, wv, _, _, _, _, rfl, .of (x12 _ _ ha7), .of (x12 _ _ hw7), by omega, by omega, .of (y12 _ _ hq10), .of (y12 _ _ hu10), (rowL_stand (s := ((rowL (ws ++ qs) ds (xs ++ ys, 0)).1, 0)) hst hbo).len.trans tvl.symm, .of hp2, Same.tup v12 hp1, by rw [wvl]; exact back_take hw hs hdk hbo hbn, fun e => back_sum hw hs hs2 hdk hbo hbn (by rw [← tvl, ← wvl]; exact e), fun G13 s13 => ?_⟩
    have x13 := x12.trans s13
    have dH13 := dH7.same x13
    walk_at "ct"
    refine ⟨D, a, w0, t, A, c5 + 1, ws, qs, xs, ys, ds, rfl, dH13.2, by omega, ⟨tv, x13 _ _ ha7, dpAll_same x13 hta7⟩, ⟨wv, x13 _ _ hw7, dpAll_same x13 hwd7⟩, hw, w1, pl, hs, hs2, x13 _ _ ht7, ⟨rv, x13 _ _ hA7, dpAll_same x13 hrd7⟩, dl8, hds, pb, fun c14 G14 d14 c14l => ?_⟩
    exact q _ _ (dH13.trans d14) (by omega)
abbrev S_law : Stmt := topS 43
theorem sc_law : FnScope ["_law_script", "_law_cell", "_law_draws_here", "_law_wheels", "_law_train", "_law_stand", "_law_i", "_law_k", "_law_part"] ["_law_script"] (defScope S_law) := ⟨rfl, rfl, rfl, by decide +kernel, rfl, by decide +kernel, by decide +kernel⟩
def sp_law (K : PySem.W.Frag) : Sp := fun vs H Q _ => ∃ (a : Addr) (ns : List Int), vs = [.ref a] ∧ SqL K H a (ns.map V.int) ∧ ns.length ≤ 63 ∧ ∀ H', Q (.bl true) H'
theorem ok_law {f : Addr} {fd : FuncData} {f__law_next : Addr} {fd__law_next : FuncData} {f__law_round_holds : Addr} {fd__law_round_holds : FuncData} {f__law_right : Addr} {fd__law_right : FuncData} {f__law_places : Addr} {fd__law_places : FuncData} {f__law_far : Addr} {fd__law_far : FuncData} {f__law_behind : Addr} {fd__law_behind : FuncData} {f__law_wheel : Addr} {fd__law_wheel : FuncData} {f__law_draws : Addr} {fd__law_draws : FuncData} (F : Fun K "law" "law" S_law f fd)
    (F__law_next : Fun K "_law_next" "_law_next" S__law_next f__law_next fd__law_next) (b__law_next : Binds K fd__law_next ["_law_draws_here"] []) (g__law_next : mg "_law_next" = some (.ref f__law_next)) (G__law_next : FnOk P w K mg base CX0 1 f__law_next fd__law_next ["_law_draws_here"] (sp__law_next K))
    (F__law_round_holds : Fun K "_law_round_holds" "_law_round_holds" S__law_round_holds f__law_round_holds fd__law_round_holds) (b__law_round_holds : Binds K fd__law_round_holds ["_law_train", "_law_stand", "_law_i", "_law_way"] []) (g__law_round_holds : mg "_law_round_holds" = some (.ref f__law_round_holds)) (G__law_round_holds : FnOk P w K mg base CX0 7 f__law_round_holds fd__law_round_holds ["_law_train", "_law_stand", "_law_i", "_law_way"] (sp__law_round_holds K))
    (F__law_right : Fun K "_law_right" "_law_right" S__law_right f__law_right fd__law_right) (b__law_right : Binds K fd__law_right ["_law_draws_here", "_law_train", "_law_wheels", "_law_stand"] []) (g__law_right : mg "_law_right" = some (.ref f__law_right)) (G__law_right : FnOk P w K mg base CX0 8 f__law_right fd__law_right ["_law_draws_here", "_law_train", "_law_wheels", "_law_stand"] (sp__law_right K))
    (F__law_places : Fun K "_law_places" "_law_places" S__law_places f__law_places fd__law_places) (b__law_places : Binds K fd__law_places ["_law_part"] []) (g__law_places : mg "_law_places" = some (.ref f__law_places)) (G__law_places : FnOk P w K mg base CX0 1 f__law_places fd__law_places ["_law_part"] (sp__law_places K))
    (F__law_far : Fun K "_law_far" "_law_far" S__law_far f__law_far fd__law_far) (b__law_far : Binds K fd__law_far ["_law_draws_here", "_law_most"] []) (g__law_far : mg "_law_far" = some (.ref f__law_far)) (G__law_far : FnOk P w K mg base CX0 2 f__law_far fd__law_far ["_law_draws_here", "_law_most"] (sp__law_far K))
    (F__law_behind : Fun K "_law_behind" "_law_behind" S__law_behind f__law_behind fd__law_behind) (b__law_behind : Binds K fd__law_behind ["_law_draws_here", "_law_many"] []) (g__law_behind : mg "_law_behind" = some (.ref f__law_behind)) (G__law_behind : FnOk P w K mg base CX0 4 f__law_behind fd__law_behind ["_law_draws_here", "_law_many"] (sp__law_behind K))
    (F__law_wheel : Fun K "_law_wheel" "_law_wheel" S__law_wheel f__law_wheel fd__law_wheel) (b__law_wheel : Binds K fd__law_wheel ["_law_draws_here"] []) (g__law_wheel : mg "_law_wheel" = some (.ref f__law_wheel)) (G__law_wheel : FnOk P w K mg base CX0 3 f__law_wheel fd__law_wheel ["_law_draws_here"] (sp__law_wheel K))
    (F__law_draws : Fun K "_law_draws" "_law_draws" S__law_draws f__law_draws fd__law_draws) (b__law_draws : Binds K fd__law_draws ["_law_cell"] []) (g__law_draws : mg "_law_draws" = some (.ref f__law_draws)) (G__law_draws : FnOk P w K mg base CX0 1 f__law_draws fd__law_draws ["_law_cell"] (sp__law_draws K)) (m_tuple : mg "tuple" = none) (m_len : mg "len" = none) (m_range : mg "range" = none) :
    FnOk P w K mg base CX0 9 f fd ["_law_script"] (sp_law K) := by
  refine F.ok sc_law (fun vs H Q E h => ?_) (fun cdv A outer s H vs Q E hr h => ?_)
  ·
    obtain ⟨a, ns, rfl, _⟩ := h
    rfl
  ·
    obtain ⟨a, ns, rfl, hS, hlen, q⟩ := h
    refine ⟨_, (pss_cons (ps_for PassesOwn.never rfl (pi_list (pe_op op_cat (pe_slice (r := rSlL K) sl_list (pv 0) po_none (po_some pe_int)) (pe_lst (pa_cons pe_int pa_nil)))) (pg_name (i := 1) sc_law.nd rfl (.inl rfl))
      (pss_cons (ps_set (i := 2) sc_law.nd rfl (.inr rfl) (pe_call G__law_draws (hr.mono (by decide)) (by rfl) g__law_draws F__law_draws.kp b__law_draws .nil pass0 (pa_cons (pv 1) pa_nil)))
      (pss_cons (ps_setLc (i := 3) (own := [("_law_k", 7)]) (g := gName 7)  rfl sc_law.nd rfl rfl (sw_true rfl rfl rfl (by decide +kernel)) (pi_range1 (by rfl) m_range (pa_cons (pe_op op_add pe_int (pe_op op_mod (pe_call G__law_next (hr.mono (by decide)) (by rfl) g__law_next F__law_next.kp b__law_next .nil pass0 (pa_cons (pv 2) pa_nil)) pe_int)) pa_nil)) (blkOk_by (own := [("_law_k", 7)]) (N := ["_law_script", "_law_cell", "_law_draws_here", "_law_wheels", "_law_train", "_law_stand", "_law_i", "_law_k", "_law_part"]) (sc := defScope S_law) (by decide +kernel)) (fun _ _ _ _ _ => pg_name (i := 7) sc_law.nd rfl (Or.inl rfl)) (fun _ _ _ _ _ => pts_nil) (fun _ _ _ _ _ => (pe_call G__law_wheel (hr.mono (by decide)) (by rfl) g__law_wheel F__law_wheel.kp b__law_wheel .nil pass0 (pa_cons (pv 2) pa_nil))))
      (pss_cons (ps_set (i := 4) sc_law.nd rfl (.inl rfl) (pe_op op_cat (pv 3) (pe_call G__law_behind (hr.mono (by decide)) (by rfl) g__law_behind F__law_behind.kp b__law_behind .nil pass0 (pa_cons (pv 2) (pa_cons (pe_op op_sub pe_int (pe_callB call_len_seq (by rfl) m_len (by decide +kernel) (pa_cons (pv 3) pa_nil))) pa_nil)))))
      (pss_cons (ps_set (i := 5) sc_law.nd rfl (.inl rfl) (pe_callTy call_tuple_of (by rfl) m_tuple (by decide +kernel) (pa_cons (pe_lc (own := [("_law_part", 8)]) (g := gName 8)  rfl sc_law.nd  (pi_list (pv 4)) (blkOk_by (own := [("_law_part", 8)]) (N := ["_law_script", "_law_cell", "_law_draws_here", "_law_wheels", "_law_train", "_law_stand", "_law_i", "_law_k", "_law_part"]) (sc := defScope S_law) (by decide +kernel)) (fun _ _ _ _ _ => pg_name (i := 8) sc_law.nd rfl (Or.inl rfl)) (fun _ _ _ _ _ => pts_nil) (fun _ _ _ _ _ => (pe_call G__law_far (hr.mono (by decide)) (by rfl) g__law_far F__law_far.kp b__law_far .nil pass0 (pa_cons (pv 2) (pa_cons (pe_call G__law_places (hr.mono (by decide)) (by rfl) g__law_places F__law_places.kp b__law_places .nil pass0 (pa_cons (pv 8) pa_nil)) pa_nil))))) pa_nil)))
      (pss_cons (ps_if (pt_not (pt_val (pe_call G__law_right (hr.mono (by decide)) (by rfl) g__law_right F__law_right.kp b__law_right .nil pass0 (pa_cons (pv 2) (pa_cons (pv 4) (pa_cons (pv 3) (pa_cons (pv 5) pa_nil))))))) (pss_one (ps_ret pe_bl)) pss_nil)
      (pss_cons (ps_set (i := 6) sc_law.nd rfl (.inl rfl) (pe_op op_mod (pe_call G__law_next (hr.mono (by decide)) (by rfl) g__law_next F__law_next.kp b__law_next .nil pass0 (pa_cons (pv 2) pa_nil)) (pe_callB call_len_seq (by rfl) m_len (by decide +kernel) (pa_cons (pv 4) pa_nil))))
      (pss_one (ps_if (PW.pt (pw_and (pt_cmpR (r := rEqD K) (op_eqD hr.units) (pv 4) (pv 3) (nomark _)) (pw_and1 (pt_not (pt_val (pe_call G__law_round_holds (hr.mono (by decide)) (by rfl) g__law_round_holds F__law_round_holds.kp b__law_round_holds .nil pass0 (pa_cons (pv 4) (pa_cons (pv 5) (pa_cons (pv 6) (pa_cons (pe_ix (r := rIxL K) ix_list (pe_lst (pa_cons pe_int (pa_cons (pe_op op_sub pe_int pe_int) pa_nil))) (pe_op op_mod (pe_call G__law_next (hr.mono (by decide)) (by rfl) g__law_next F__law_next.kp b__law_next .nil pass0 (pa_cons (pv 2) pa_nil)) pe_int) (fun _ _ => rfl)) pa_nil)))))))))) (pss_one (ps_ret pe_bl)) pss_nil)))))))))
      (pss_one (ps_ret pe_bl))), ?_⟩
    refine w_st (σ' := [some (.ref a), none, none, none, none, none, none, none, none]) rfl ?_
    walk_at "ct"
    refine w_slL hS fun p np => ?_
    walk_at "ct"
    refine ⟨len2 rfl, fun p2 np2 => ?_⟩
    obtain ⟨cs, hcs, cl⟩ : ∃ cs : List Int, cutV (ns.map V.int) none (some 6) = cs.map V.int ∧ cs.length ≤ 63 := by
      refine ⟨_, cutV_map ns none (some 6), ?_⟩
      have := cutV_length (ns.map V.int) none (some 6)
      rw [cutV_map, List.length_map, List.length_map] at this
      omega
    rw [hcs] at np2 ⊢
    refine ⟨p, p2, _, _, rfl, rfl, by rw [upd_ne (ne_of_none upd_same np2)]; exact upd_same, upd_same, ?_, fun p3 np3 => ?_⟩
    · rw [List.length_map]
      exact Nat.le_trans (show cs.length + 1 ≤ 64 by omega) (by decide)
    walk_at "ct"
    have hx : (cs.map V.int ++ [V.int 0]) = (cs ++ [0]).map V.int := by rw [List.map_append]; rfl
    rw [hx] at *
    refine w_IL (.of upd_same) ?_
    have hL : SqL K (upd (upd (upd H p (.lst (cs.map V.int))) p2 (.lst [.int 0])) p3 (.lst ((cs ++ [0]).map V.int))) p3 ((cs ++ [0]).map V.int) := .of upd_same
    have sHH : Same H (upd (upd (upd H p (.lst (cs.map V.int))) p2 (.lst [.int 0])) p3 (.lst ((cs ++ [0]).map V.int))) := ((same_upd np).trans (same_upd np2)).trans (same_upd np3)
    generalize upd (upd (upd H p _) p2 _) p3 _ = HH at *
    refine fb_list ((cs ++ [0]).map V.int) (fun n σ H' => ∃ y1 y2 y3 y4 y5 y6, σ = [some (.ref a), y1, y2, y3, y4, y5, y6, none, none] ∧ Same HH H') ⟨none, none, none, none, none, none, rfl, Same.refl _⟩ ?_ ?_ ?_
    · rintro n σ H' hn ⟨y1, y2, y3, y4, y5, y6, rfl, sm⟩
      exact sm.seq hL
    · rintro n x σ H' hx ⟨y1, y2, y3, y4, y5, y6, rfl, sm⟩
      obtain ⟨c, rfl⟩ : ∃ c : Int, x = .int c := by
        obtain ⟨k, _, rfl⟩ := List.mem_map.mp (List.mem_of_getElem? hx)
        exact ⟨k, rfl⟩
      walk_at "ct"
      refine ⟨c, rfl, fun D H1 s1 nD hD => ?_⟩
      walk_at "ct"
      refine ⟨D, 0, rfl, hD, by omega, fun n1 _ _ => ?_⟩
      have d1 := Dr.step hD (0 + 1)
      generalize upd H1 D _ = H2 at *
      walk_at "ct"
      refine w_mod (by decide) fun k8 k80 k81 => ?_
      walk_at "ct"
      refine w_RG1 (by omega) (by omega) ?_
      refine lb_range (fun A k G => ∃ (cG : Nat) (wv : List V) (ws : List Part), Dr D cG H2 G ∧ cG ≤ 1 + 60 * k ∧ G A = some (.lst wv) ∧ DpAll K G wv (ws.map Part.data) ∧ ws.length = k ∧ Wheels ws ∧ ∀ p ∈ ws, p.ok ∧ p.places ≤ 10 ^ 40 ∧ (marksN p).length ≤ 6) (fun A nA => ⟨1, [], [], (Dr.refl d1.2).same (same_upd nA), by omega, upd_same, .nil, rfl, (fun _ h => nomatch h), fun _ h => nomatch h⟩) ?_ ?_
      · rintro A nA k G hk ⟨cG, wv, ws, dG, cGl, hA, hwd, wl, hw, hwp⟩
        have hk8 : k < 8 := by omega
        have vl : wv.length = k := by rw [dpAll_len hwd, List.length_map, wl]
        walk_at "ct"
        refine ⟨rfl, ?_⟩
        walk_at "ct"
        refine ⟨D, cG, rfl, dG.2, by omega, fun g m z ms c3 G3 d3 c3l ng hg hm ok z2 ml => ?_⟩
        have hA3 := d3.at dG.2 hA
        refine ⟨wv, hA3, small1000 (by omega), c3, wv ++ [.ref g], ws ++ [.wheel z ms], (dG.trans d3).put nA hA3, by omega, upd_same, ?_, by rw [List.length_append, wl]; rfl, fun p hp => ?_, fun p hp => ?_⟩
        · rw [List.map_append]
          exact dpAll_app (parts_upd hA3 _ (d3.all dG.2 hwd)) (parts_upd hA3 [.wheel z ms] (.cons (wheel_dp (.of hg) (.of hm)) .nil))
        · rcases List.mem_append.mp hp with hp | hp
          · exact hw p hp
          · rw [List.mem_singleton.mp hp]; rfl
        · rcases List.mem_append.mp hp with hp | hp
          · exact hwp p hp
          · rw [List.mem_singleton.mp hp]
            exact ⟨ok, z2, ml⟩
      rintro A nA G3 ⟨c3, wv, ws, d3, c3l, hA3, hwd3, wl, hw, hwp⟩
      have wl1 : 1 ≤ ws.length := by omega
      have wl8 : ws.length ≤ 8 := by omega
      have c3b : c3 ≤ 500 := by omega
      have vl : wv.length = ws.length := by rw [dpAll_len hwd3, List.length_map]
      have e1 := d1.trans d3
      clear d1 d3 c3l
      walk_at "ct"
      refine ⟨A, wv, rfl, .inl (.of hA3), ?_⟩
      walk_at "ct"
      refine ⟨D, c3, _, rfl, e1.2, by omega, by omega, fun l us qs c4 G4 d4 c4l nl hl hus hqs ql => ?_⟩
      have hA4 := d4.at e1.2 hA3
      have hwd4 := d4.all e1.2 hwd3
      have e4 := e1.trans d4
      have ul : us.length = qs.length := by rw [dpAll_len hus, List.length_map]
      have ql8 : ws.length + qs.length ≤ 8 := by omega
      have al : (ws ++ qs).length = ws.length + qs.length := List.length_append
      clear hA3 hwd3 d4 e1
      refine ⟨A, l, _, _, rfl, rfl, hA4, hl, Nat.le_of_lt (small1000 (by omega)), fun t0 nt0 => ?_⟩
      have u5 : Same G4 (upd G4 t0 (.lst (wv ++ us))) := same_upd nt0
      have ht0 : (upd G4 t0 (.lst (wv ++ us))) t0 = some (.lst (wv ++ us)) := upd_same
      generalize upd G4 t0 _ = G5 at *
      have e5 := e4.same u5
      have hA5 := u5 _ _ hA4
      have hwd5 := dpAll_same u5 hwd4
      have hta5 : DpAll K G5 (wv ++ us) ((ws ++ qs).map Part.data) := by
        rw [List.map_append]
        exact dpAll_app hwd5 (dpAll_same u5 hus)
      have pok : ∀ p ∈ ws ++ qs, p.ok ∧ p.places ≤ 10 ^ 40 := fun p hp => by
        rcases List.mem_append.mp hp with hp | hp
        · exact ⟨(hwp p hp).1, (hwp p hp).2.1⟩
        · exact hqs p hp
      clear hA4 hwd4 hus hl u5 hqs nl
      walk_at "ct"
      refine w_IL (.of ht0) ?_
      refine lb_list (wv ++ us) (fun B k G => ∃ (cG : Nat) (zs : List Int), Dr D cG G5 G ∧ cG ≤ c4 + 9 * k ∧ G B = some (.lst (zs.map V.int)) ∧ StandL ((ws ++ qs).take k) zs) (fun B nB => ⟨c4, [], (Dr.refl e5.2).same (same_upd nB), by omega, upd_same, by rw [List.take_zero]; trivial⟩) ?_ ?_ ?_
      · rintro B nB k G _ ⟨cG, zs, dG, _⟩
        exact .of (dG.at e5.2 ht0)
      · rintro B nB k x G hx ⟨cG, zs, dG, cGl, hB, hzs⟩
        have hk : k < (wv ++ us).length := (List.getElem?_eq_some_iff.mp hx).1
        rw [List.length_append] at hk
        obtain ⟨p, hp⟩ : ∃ p, (ws ++ qs)[k]? = some p := ⟨_, List.getElem?_eq_getElem (by omega)⟩
        obtain ⟨x', hx', hdp⟩ := dpAll_get (dG.all e5.2 hta5) (i := k) (d := p.data) (by rw [List.getElem?_map, hp]; rfl)
        cases Option.some.inj (hx.symm.trans hx')
        have pk := pok p (List.mem_of_getElem? hp)
        have zl : zs.length = k := by rw [hzs.len, List.length_take]; omega
        walk_at "ct"
        refine ⟨rfl, ?_⟩
        walk_at "ct"
        refine ⟨_, p, rfl, hdp, fun J s6 => ?_⟩
        have dJ := dG.same s6
        walk_at "ct"
        refine ⟨D, cG, _, rfl, dJ.2, by omega, pk.1.pos.1, fun z c6 J6 d6 c6l z0 z1 => ?_⟩
        have hB6 := d6.at dJ.2 (s6 _ _ hB)
        refine ⟨_, hB6, by rw [List.length_map]; exact small1000 (by omega), c6, zs ++ [z], (dJ.trans d6).put nB hB6, by omega, by rw [upd_same, List.map_append]; rfl, ?_⟩
        rw [List.take_add_one, hp]
        exact standL_app hzs ⟨pk.1, z0, z1, trivial⟩
      rintro B nB G6 ⟨c6, zs, d6, c6l, hB, hzs⟩
      rw [List.take_of_length_le (by rw [al, List.length_append]; omega)] at hzs
      rw [List.length_append] at c6l
      have c6b : c6 ≤ 1000 := by omega
      have e6 := e5.trans d6
      obtain ⟨xs, ys, rfl, hs, hs2⟩ := standL_split hzs
      walk_at "ct"
      refine ⟨B, _, rfl, .inl ⟨.of hB, fun t nt => ?_⟩⟩
      have u7 : Same G6 (upd G6 t (.tup ((xs ++ ys).map V.int))) := same_upd nt
      have ht : (upd G6 t (.tup ((xs ++ ys).map V.int))) t = some (.tup ((xs ++ ys).map V.int)) := upd_same
      generalize upd G6 t _ = G7 at *
      have d7 := d6.same u7
      have e7 := e6.same u7
      have ht07 := d7.at e5.2 ht0
      have hA7 := d7.at e5.2 hA5
      have hta7 := d7.all e5.2 hta5
      have hwd7 := d7.all e5.2 hwd5
      clear d6 d7 hB nB ht0 hA5 hta5 hwd5 e6 e5 c6l
      walk_at "ct"
      refine ⟨D, t0, A, t, c6, ws, qs, xs, ys, rfl, e7.2, by omega, ⟨_, ht07, hta7⟩, ⟨_, hA7, hwd7⟩, hw, wl1, by omega, hs, hs2, ht, fun p hp => (pok p hp).2, fun c8 G8 d8 c8l => ?_⟩
      have ht08 := d8.at e7.2 ht07
      have hA8 := d8.at e7.2 hA7
      have ht8 := d8.at e7.2 ht
      have hta8 := d8.all e7.2 hta7
      have hwd8 := d8.all e7.2 hwd7
      have e8 := e7.trans d8
      clear d8 ht07 hA7 ht hta7 hwd7 e7 u7
      walk_at "ct"
      refine ⟨D, c8, rfl, e8.2, by omega, fun n9 _ _ => ?_⟩
      have st := Dr.step e8.2 (c8 + 1)
      have ht09 := st.at e8.2 ht08
      have hA9 := st.at e8.2 hA8
      have ht9 := st.at e8.2 ht8
      have hta9 := st.all e8.2 hta8
      have hwd9 := st.all e8.2 hwd8
      have e9 := e8.trans st
      clear st e8 ht08 hA8 ht8 hta8 hwd8
      generalize upd G8 D _ = G9 at *
      walk_at "ct"
      refine ⟨t0, _, rfl, .inl (.of ht09), ?_⟩
      have avl : (wv ++ us).length = (ws ++ qs).length := by rw [List.length_append]; omega
      walk_at "ct"
      refine w_mod (by omega) fun i i0 i1 => ?_
      obtain ⟨iN, rfl⟩ : ∃ iN : Nat, i = iN := ⟨i.toNat, by omega⟩
      have iN1 : iN < (ws ++ qs).length := by omega
      walk_at "ct"
      refine ⟨.list ((ws ++ qs).map Part.data), .list (ws.map Part.data), .lst (.of ht09) hta9, .lst (.of hA9) hwd9, shaped_of (lay_train _) (by decide), shaped_of (lay_train _) (by decide), ?_⟩
      walk_at "ct"
      by_cases eqv : PyData.eqv (.list ((ws ++ qs).map Part.data)) (.list (ws.map Part.data)) = true
      rotate_left
      · rw [if_neg eqv]
        walk_at "ct"
        exact ⟨_, _, _, _, _, _, rfl, sm.trans (e9.1.same nD s1)⟩
      rw [if_pos eqv]
      have q0 := eqv_behind eqv
      subst q0
      have y0 : ys = [] := (none_behind (ws := ws) hs2 (by rw [List.append_nil])).2
      subst y0
      rw [List.append_nil] at hta9 iN1 ht9
      walk_at "ct"
      refine ⟨len2 rfl, fun g1 ng1 => ?_⟩
      have v1 : Same G9 (upd G9 g1 (.lst [.int 1, .int (0 - 1)])) := same_upd ng1
      have hg1 : (upd G9 g1 (.lst [.int 1, .int (0 - 1)])) g1 = some (.lst [.int 1, .int (0 - 1)]) := upd_same
      generalize upd G9 g1 _ = J1 at *
      have e10 := e9.same v1
      walk_at "ct"
      refine ⟨D, c8 + 1, rfl, e10.2, by omega, fun n11 _ _ => ?_⟩
      have st := Dr.step e10.2 (c8 + 1 + 1)
      have hg2 := st.at e10.2 hg1
      have ht0J := st.at e10.2 (v1 _ _ ht09)
      have htJ := st.at e10.2 (v1 _ _ ht9)
      have htaJ := st.all e10.2 (dpAll_same v1 hta9)
      have e11 := e10.trans st
      clear st
      generalize upd J1 D _ = J2 at *
      walk_at "ct"
      refine w_mod (by decide) fun r r0 r1 => ?_
      obtain ⟨w1, hw1, sw1⟩ : ∃ w1 : Int, atI [V.int 1, .int (0 - 1)] r = some (.int w1) ∧ Sign w1 := by
        have : r = 0 ∨ r = 1 := by omega
        rcases this with rfl | rfl
        · exact ⟨1, at0, .inl rfl⟩
        · exact ⟨-1, at1, .inr rfl⟩
      refine w_ixL (.of hg2) hw1 ?_
      walk_at "ct"
      refine ⟨t0, t, ws, xs, iN, w1, rfl, ⟨_, .of ht0J, htaJ⟩, hw, hs, .of htJ, wl1, by omega, iN1, sw1, fun p hp => (hwp p hp).2, fun J3 s3 => ?_⟩
      walk_at "ct"
      exact ⟨_, _, _, _, _, _, rfl, sm.trans ((e11.1.same nD s1).trans s3)⟩
    · rintro σ G ⟨y1, y2, y3, y4, y5, y6, rfl, _⟩
      walk_at "ct"
      exact q G
end
theorem all_mk {l : PySem.W.OpenLaw} {w : World} {K : PySem.W.Frag} {h : Heap} {mg : Str → Option Value} {fa : Addr} (X : K.In h) (G : h.Ns mainGlobals mg) (hfa : mg "law" = some (.ref fa))
    {f_is_whole : Addr} {od0 an0 : Option Addr} {sl0 : Array (Option Value)} {oc0 kV0 dc0 pm0 cd0 ct0 : Value}
    (a0 : PySem.W.nsIn K mainGlobals "is_whole" = some (some (.ref f_is_whole))) (l0 : K.lookup f_is_whole = some ⟨oc0, od0, .func (PySem.W.fnOf "is_whole" "is_whole" (defArgs S_is_whole) (defBody S_is_whole) (defScope S_is_whole) .none kV0 dc0 pm0 an0 cd0 ct0), sl0⟩) (c0 : PySem.W.codeIn K cd0 "is_whole" = true) (k0 : PySem.W.keepIn K (.ref f_is_whole) = true)
    {f_are_marks : Addr} {od1 an1 : Option Addr} {sl1 : Array (Option Value)} {oc1 kV1 dc1 pm1 cd1 ct1 : Value}
    (a1 : PySem.W.nsIn K mainGlobals "are_marks" = some (some (.ref f_are_marks))) (l1 : K.lookup f_are_marks = some ⟨oc1, od1, .func (PySem.W.fnOf "are_marks" "are_marks" (defArgs S_are_marks) (defBody S_are_marks) (defScope S_are_marks) .none kV1 dc1 pm1 an1 cd1 ct1), sl1⟩) (c1 : PySem.W.codeIn K cd1 "are_marks" = true) (k1 : PySem.W.keepIn K (.ref f_are_marks) = true)
    {f_is_part : Addr} {od2 an2 : Option Addr} {sl2 : Array (Option Value)} {oc2 kV2 dc2 pm2 cd2 ct2 : Value}
    (a2 : PySem.W.nsIn K mainGlobals "is_part" = some (some (.ref f_is_part))) (l2 : K.lookup f_is_part = some ⟨oc2, od2, .func (PySem.W.fnOf "is_part" "is_part" (defArgs S_is_part) (defBody S_is_part) (defScope S_is_part) .none kV2 dc2 pm2 an2 cd2 ct2), sl2⟩) (c2 : PySem.W.codeIn K cd2 "is_part" = true) (k2 : PySem.W.keepIn K (.ref f_is_part) = true)
    {f_check_train : Addr} {od3 an3 : Option Addr} {sl3 : Array (Option Value)} {oc3 kV3 dc3 pm3 cd3 ct3 : Value}
    (a3 : PySem.W.nsIn K mainGlobals "check_train" = some (some (.ref f_check_train))) (l3 : K.lookup f_check_train = some ⟨oc3, od3, .func (PySem.W.fnOf "check_train" "check_train" (defArgs S_check_train) (defBody S_check_train) (defScope S_check_train) .none kV3 dc3 pm3 an3 cd3 ct3), sl3⟩) (c3 : PySem.W.codeIn K cd3 "check_train" = true) (k3 : PySem.W.keepIn K (.ref f_check_train) = true)
    {f_place_count : Addr} {od4 an4 : Option Addr} {sl4 : Array (Option Value)} {oc4 kV4 dc4 pm4 cd4 ct4 : Value}
    (a4 : PySem.W.nsIn K mainGlobals "place_count" = some (some (.ref f_place_count))) (l4 : K.lookup f_place_count = some ⟨oc4, od4, .func (PySem.W.fnOf "place_count" "place_count" (defArgs S_place_count) (defBody S_place_count) (defScope S_place_count) .none kV4 dc4 pm4 an4 cd4 ct4), sl4⟩) (c4 : PySem.W.codeIn K cd4 "place_count" = true) (k4 : PySem.W.keepIn K (.ref f_place_count) = true)
    {f_is_stand : Addr} {od5 an5 : Option Addr} {sl5 : Array (Option Value)} {oc5 kV5 dc5 pm5 cd5 ct5 : Value}
    (a5 : PySem.W.nsIn K mainGlobals "is_stand" = some (some (.ref f_is_stand))) (l5 : K.lookup f_is_stand = some ⟨oc5, od5, .func (PySem.W.fnOf "is_stand" "is_stand" (defArgs S_is_stand) (defBody S_is_stand) (defScope S_is_stand) .none kV5 dc5 pm5 an5 cd5 ct5), sl5⟩) (c5 : PySem.W.codeIn K cd5 "is_stand" = true) (k5 : PySem.W.keepIn K (.ref f_is_stand) = true)
    {f_check_stand : Addr} {od6 an6 : Option Addr} {sl6 : Array (Option Value)} {oc6 kV6 dc6 pm6 cd6 ct6 : Value}
    (a6 : PySem.W.nsIn K mainGlobals "check_stand" = some (some (.ref f_check_stand))) (l6 : K.lookup f_check_stand = some ⟨oc6, od6, .func (PySem.W.fnOf "check_stand" "check_stand" (defArgs S_check_stand) (defBody S_check_stand) (defScope S_check_stand) .none kV6 dc6 pm6 an6 cd6 ct6), sl6⟩) (c6 : PySem.W.codeIn K cd6 "check_stand" = true) (k6 : PySem.W.keepIn K (.ref f_check_stand) = true)
    {f_is_way : Addr} {od7 an7 : Option Addr} {sl7 : Array (Option Value)} {oc7 kV7 dc7 pm7 cd7 ct7 : Value}
    (a7 : PySem.W.nsIn K mainGlobals "is_way" = some (some (.ref f_is_way))) (l7 : K.lookup f_is_way = some ⟨oc7, od7, .func (PySem.W.fnOf "is_way" "is_way" (defArgs S_is_way) (defBody S_is_way) (defScope S_is_way) .none kV7 dc7 pm7 an7 cd7 ct7), sl7⟩) (c7 : PySem.W.codeIn K cd7 "is_way" = true) (k7 : PySem.W.keepIn K (.ref f_is_way) = true)
    {f_is_deed : Addr} {od8 an8 : Option Addr} {sl8 : Array (Option Value)} {oc8 kV8 dc8 pm8 cd8 ct8 : Value}
    (a8 : PySem.W.nsIn K mainGlobals "is_deed" = some (some (.ref f_is_deed))) (l8 : K.lookup f_is_deed = some ⟨oc8, od8, .func (PySem.W.fnOf "is_deed" "is_deed" (defArgs S_is_deed) (defBody S_is_deed) (defScope S_is_deed) .none kV8 dc8 pm8 an8 cd8 ct8), sl8⟩) (c8 : PySem.W.codeIn K cd8 "is_deed" = true) (k8 : PySem.W.keepIn K (.ref f_is_deed) = true)
    {f_check_row : Addr} {od9 an9 : Option Addr} {sl9 : Array (Option Value)} {oc9 kV9 dc9 pm9 cd9 ct9 : Value}
    (a9 : PySem.W.nsIn K mainGlobals "check_row" = some (some (.ref f_check_row))) (l9 : K.lookup f_check_row = some ⟨oc9, od9, .func (PySem.W.fnOf "check_row" "check_row" (defArgs S_check_row) (defBody S_check_row) (defScope S_check_row) .none kV9 dc9 pm9 an9 cd9 ct9), sl9⟩) (c9 : PySem.W.codeIn K cd9 "check_row" = true) (k9 : PySem.W.keepIn K (.ref f_check_row) = true)
    {f_marks_up_to : Addr} {od10 an10 : Option Addr} {sl10 : Array (Option Value)} {oc10 kV10 dc10 pm10 cd10 ct10 : Value}
    (a10 : PySem.W.nsIn K mainGlobals "marks_up_to" = some (some (.ref f_marks_up_to))) (l10 : K.lookup f_marks_up_to = some ⟨oc10, od10, .func (PySem.W.fnOf "marks_up_to" "marks_up_to" (defArgs S_marks_up_to) (defBody S_marks_up_to) (defScope S_marks_up_to) .none kV10 dc10 pm10 an10 cd10 ct10), sl10⟩) (c10 : PySem.W.codeIn K cd10 "marks_up_to" = true) (k10 : PySem.W.keepIn K (.ref f_marks_up_to) = true)
    {f_marks_ahead : Addr} {od11 an11 : Option Addr} {sl11 : Array (Option Value)} {oc11 kV11 dc11 pm11 cd11 ct11 : Value}
    (a11 : PySem.W.nsIn K mainGlobals "marks_ahead" = some (some (.ref f_marks_ahead))) (l11 : K.lookup f_marks_ahead = some ⟨oc11, od11, .func (PySem.W.fnOf "marks_ahead" "marks_ahead" (defArgs S_marks_ahead) (defBody S_marks_ahead) (defScope S_marks_ahead) .none kV11 dc11 pm11 an11 cd11 ct11), sl11⟩) (c11 : PySem.W.codeIn K cd11 "marks_ahead" = true) (k11 : PySem.W.keepIn K (.ref f_marks_ahead) = true)
    {f_wheel_turned : Addr} {od12 an12 : Option Addr} {sl12 : Array (Option Value)} {oc12 kV12 dc12 pm12 cd12 ct12 : Value}
    (a12 : PySem.W.nsIn K mainGlobals "wheel_turned" = some (some (.ref f_wheel_turned))) (l12 : K.lookup f_wheel_turned = some ⟨oc12, od12, .func (PySem.W.fnOf "wheel_turned" "wheel_turned" (defArgs S_wheel_turned) (defBody S_wheel_turned) (defScope S_wheel_turned) .none kV12 dc12 pm12 an12 cd12 ct12), sl12⟩) (c12 : PySem.W.codeIn K cd12 "wheel_turned" = true) (k12 : PySem.W.keepIn K (.ref f_wheel_turned) = true)
    {f_rocker_turned : Addr} {od13 an13 : Option Addr} {sl13 : Array (Option Value)} {oc13 kV13 dc13 pm13 cd13 ct13 : Value}
    (a13 : PySem.W.nsIn K mainGlobals "rocker_turned" = some (some (.ref f_rocker_turned))) (l13 : K.lookup f_rocker_turned = some ⟨oc13, od13, .func (PySem.W.fnOf "rocker_turned" "rocker_turned" (defArgs S_rocker_turned) (defBody S_rocker_turned) (defScope S_rocker_turned) .none kV13 dc13 pm13 an13 cd13 ct13), sl13⟩) (c13 : PySem.W.codeIn K cd13 "rocker_turned" = true) (k13 : PySem.W.keepIn K (.ref f_rocker_turned) = true)
    {f_spring_turned : Addr} {od14 an14 : Option Addr} {sl14 : Array (Option Value)} {oc14 kV14 dc14 pm14 cd14 ct14 : Value}
    (a14 : PySem.W.nsIn K mainGlobals "spring_turned" = some (some (.ref f_spring_turned))) (l14 : K.lookup f_spring_turned = some ⟨oc14, od14, .func (PySem.W.fnOf "spring_turned" "spring_turned" (defArgs S_spring_turned) (defBody S_spring_turned) (defScope S_spring_turned) .none kV14 dc14 pm14 an14 cd14 ct14), sl14⟩) (c14 : PySem.W.codeIn K cd14 "spring_turned" = true) (k14 : PySem.W.keepIn K (.ref f_spring_turned) = true)
    {f_part_turned : Addr} {od15 an15 : Option Addr} {sl15 : Array (Option Value)} {oc15 kV15 dc15 pm15 cd15 ct15 : Value}
    (a15 : PySem.W.nsIn K mainGlobals "part_turned" = some (some (.ref f_part_turned))) (l15 : K.lookup f_part_turned = some ⟨oc15, od15, .func (PySem.W.fnOf "part_turned" "part_turned" (defArgs S_part_turned) (defBody S_part_turned) (defScope S_part_turned) .none kV15 dc15 pm15 an15 cd15 ct15), sl15⟩) (c15 : PySem.W.codeIn K cd15 "part_turned" = true) (k15 : PySem.W.keepIn K (.ref f_part_turned) = true)
    {f_row_left : Addr} {od16 an16 : Option Addr} {sl16 : Array (Option Value)} {oc16 kV16 dc16 pm16 cd16 ct16 : Value}
    (a16 : PySem.W.nsIn K mainGlobals "row_left" = some (some (.ref f_row_left))) (l16 : K.lookup f_row_left = some ⟨oc16, od16, .func (PySem.W.fnOf "row_left" "row_left" (defArgs S_row_left) (defBody S_row_left) (defScope S_row_left) .none kV16 dc16 pm16 an16 cd16 ct16), sl16⟩) (c16 : PySem.W.codeIn K cd16 "row_left" = true) (k16 : PySem.W.keepIn K (.ref f_row_left) = true)
    {f_left : Addr} {od17 an17 : Option Addr} {sl17 : Array (Option Value)} {oc17 kV17 dc17 pm17 cd17 ct17 : Value}
    (a17 : PySem.W.nsIn K mainGlobals "left" = some (some (.ref f_left))) (l17 : K.lookup f_left = some ⟨oc17, od17, .func (PySem.W.fnOf "left" "left" (defArgs S_left) (defBody S_left) (defScope S_left) .none kV17 dc17 pm17 an17 cd17 ct17), sl17⟩) (c17 : PySem.W.codeIn K cd17 "left" = true) (k17 : PySem.W.keepIn K (.ref f_left) = true)
    {f_check_count : Addr} {od18 an18 : Option Addr} {sl18 : Array (Option Value)} {oc18 kV18 dc18 pm18 cd18 ct18 : Value}
    (a18 : PySem.W.nsIn K mainGlobals "check_count" = some (some (.ref f_check_count))) (l18 : K.lookup f_check_count = some ⟨oc18, od18, .func (PySem.W.fnOf "check_count" "check_count" (defArgs S_check_count) (defBody S_check_count) (defScope S_check_count) .none kV18 dc18 pm18 an18 cd18 ct18), sl18⟩) (c18 : PySem.W.codeIn K cd18 "check_count" = true) (k18 : PySem.W.keepIn K (.ref f_check_count) = true)
    {f_left_often : Addr} {od19 an19 : Option Addr} {sl19 : Array (Option Value)} {oc19 kV19 dc19 pm19 cd19 ct19 : Value}
    (a19 : PySem.W.nsIn K mainGlobals "left_often" = some (some (.ref f_left_often))) (l19 : K.lookup f_left_often = some ⟨oc19, od19, .func (PySem.W.fnOf "left_often" "left_often" (defArgs S_left_often) (defBody S_left_often) (defScope S_left_often) .none kV19 dc19 pm19 an19 cd19 ct19), sl19⟩) (c19 : PySem.W.codeIn K cd19 "left_often" = true) (k19 : PySem.W.keepIn K (.ref f_left_often) = true)
    {f__law_draws : Addr} {od20 an20 : Option Addr} {sl20 : Array (Option Value)} {oc20 kV20 dc20 pm20 cd20 ct20 : Value}
    (a20 : PySem.W.nsIn K mainGlobals "_law_draws" = some (some (.ref f__law_draws))) (l20 : K.lookup f__law_draws = some ⟨oc20, od20, .func (PySem.W.fnOf "_law_draws" "_law_draws" (defArgs S__law_draws) (defBody S__law_draws) (defScope S__law_draws) .none kV20 dc20 pm20 an20 cd20 ct20), sl20⟩) (c20 : PySem.W.codeIn K cd20 "_law_draws" = true) (k20 : PySem.W.keepIn K (.ref f__law_draws) = true)
    {f__law_next : Addr} {od21 an21 : Option Addr} {sl21 : Array (Option Value)} {oc21 kV21 dc21 pm21 cd21 ct21 : Value}
    (a21 : PySem.W.nsIn K mainGlobals "_law_next" = some (some (.ref f__law_next))) (l21 : K.lookup f__law_next = some ⟨oc21, od21, .func (PySem.W.fnOf "_law_next" "_law_next" (defArgs S__law_next) (defBody S__law_next) (defScope S__law_next) .none kV21 dc21 pm21 an21 cd21 ct21), sl21⟩) (c21 : PySem.W.codeIn K cd21 "_law_next" = true) (k21 : PySem.W.keepIn K (.ref f__law_next) = true)
    {f__law_far : Addr} {od22 an22 : Option Addr} {sl22 : Array (Option Value)} {oc22 kV22 dc22 pm22 cd22 ct22 : Value}
    (a22 : PySem.W.nsIn K mainGlobals "_law_far" = some (some (.ref f__law_far))) (l22 : K.lookup f__law_far = some ⟨oc22, od22, .func (PySem.W.fnOf "_law_far" "_law_far" (defArgs S__law_far) (defBody S__law_far) (defScope S__law_far) .none kV22 dc22 pm22 an22 cd22 ct22), sl22⟩) (c22 : PySem.W.codeIn K cd22 "_law_far" = true) (k22 : PySem.W.keepIn K (.ref f__law_far) = true)
    {f__law_wheel : Addr} {od23 an23 : Option Addr} {sl23 : Array (Option Value)} {oc23 kV23 dc23 pm23 cd23 ct23 : Value}
    (a23 : PySem.W.nsIn K mainGlobals "_law_wheel" = some (some (.ref f__law_wheel))) (l23 : K.lookup f__law_wheel = some ⟨oc23, od23, .func (PySem.W.fnOf "_law_wheel" "_law_wheel" (defArgs S__law_wheel) (defBody S__law_wheel) (defScope S__law_wheel) .none kV23 dc23 pm23 an23 cd23 ct23), sl23⟩) (c23 : PySem.W.codeIn K cd23 "_law_wheel" = true) (k23 : PySem.W.keepIn K (.ref f__law_wheel) = true)
    {f__law_behind : Addr} {od24 an24 : Option Addr} {sl24 : Array (Option Value)} {oc24 kV24 dc24 pm24 cd24 ct24 : Value}
    (a24 : PySem.W.nsIn K mainGlobals "_law_behind" = some (some (.ref f__law_behind))) (l24 : K.lookup f__law_behind = some ⟨oc24, od24, .func (PySem.W.fnOf "_law_behind" "_law_behind" (defArgs S__law_behind) (defBody S__law_behind) (defScope S__law_behind) .none kV24 dc24 pm24 an24 cd24 ct24), sl24⟩) (c24 : PySem.W.codeIn K cd24 "_law_behind" = true) (k24 : PySem.W.keepIn K (.ref f__law_behind) = true)
    {f__law_places : Addr} {od25 an25 : Option Addr} {sl25 : Array (Option Value)} {oc25 kV25 dc25 pm25 cd25 ct25 : Value}
    (a25 : PySem.W.nsIn K mainGlobals "_law_places" = some (some (.ref f__law_places))) (l25 : K.lookup f__law_places = some ⟨oc25, od25, .func (PySem.W.fnOf "_law_places" "_law_places" (defArgs S__law_places) (defBody S__law_places) (defScope S__law_places) .none kV25 dc25 pm25 an25 cd25 ct25), sl25⟩) (c25 : PySem.W.codeIn K cd25 "_law_places" = true) (k25 : PySem.W.keepIn K (.ref f__law_places) = true)
    {f__law_deed : Addr} {od26 an26 : Option Addr} {sl26 : Array (Option Value)} {oc26 kV26 dc26 pm26 cd26 ct26 : Value}
    (a26 : PySem.W.nsIn K mainGlobals "_law_deed" = some (some (.ref f__law_deed))) (l26 : K.lookup f__law_deed = some ⟨oc26, od26, .func (PySem.W.fnOf "_law_deed" "_law_deed" (defArgs S__law_deed) (defBody S__law_deed) (defScope S__law_deed) .none kV26 dc26 pm26 an26 cd26 ct26), sl26⟩) (c26 : PySem.W.codeIn K cd26 "_law_deed" = true) (k26 : PySem.W.keepIn K (.ref f__law_deed) = true)
    {f__law_net : Addr} {od27 an27 : Option Addr} {sl27 : Array (Option Value)} {oc27 kV27 dc27 pm27 cd27 ct27 : Value}
    (a27 : PySem.W.nsIn K mainGlobals "_law_net" = some (some (.ref f__law_net))) (l27 : K.lookup f__law_net = some ⟨oc27, od27, .func (PySem.W.fnOf "_law_net" "_law_net" (defArgs S__law_net) (defBody S__law_net) (defScope S__law_net) .none kV27 dc27 pm27 an27 cd27 ct27), sl27⟩) (c27 : PySem.W.codeIn K cd27 "_law_net" = true) (k27 : PySem.W.keepIn K (.ref f__law_net) = true)
    {f__law_due : Addr} {od28 an28 : Option Addr} {sl28 : Array (Option Value)} {oc28 kV28 dc28 pm28 cd28 ct28 : Value}
    (a28 : PySem.W.nsIn K mainGlobals "_law_due" = some (some (.ref f__law_due))) (l28 : K.lookup f__law_due = some ⟨oc28, od28, .func (PySem.W.fnOf "_law_due" "_law_due" (defArgs S__law_due) (defBody S__law_due) (defScope S__law_due) .none kV28 dc28 pm28 an28 cd28 ct28), sl28⟩) (c28 : PySem.W.codeIn K cd28 "_law_due" = true) (k28 : PySem.W.keepIn K (.ref f__law_due) = true)
    {f__law_rows : Addr} {od29 an29 : Option Addr} {sl29 : Array (Option Value)} {oc29 kV29 dc29 pm29 cd29 ct29 : Value}
    (a29 : PySem.W.nsIn K mainGlobals "_law_rows" = some (some (.ref f__law_rows))) (l29 : K.lookup f__law_rows = some ⟨oc29, od29, .func (PySem.W.fnOf "_law_rows" "_law_rows" (defArgs S__law_rows) (defBody S__law_rows) (defScope S__law_rows) .none kV29 dc29 pm29 an29 cd29 ct29), sl29⟩) (c29 : PySem.W.codeIn K cd29 "_law_rows" = true) (k29 : PySem.W.keepIn K (.ref f__law_rows) = true)
    {f__law_is : Addr} {od30 an30 : Option Addr} {sl30 : Array (Option Value)} {oc30 kV30 dc30 pm30 cd30 ct30 : Value}
    (a30 : PySem.W.nsIn K mainGlobals "_law_is" = some (some (.ref f__law_is))) (l30 : K.lookup f__law_is = some ⟨oc30, od30, .func (PySem.W.fnOf "_law_is" "_law_is" (defArgs S__law_is) (defBody S__law_is) (defScope S__law_is) .none kV30 dc30 pm30 an30 cd30 ct30), sl30⟩) (c30 : PySem.W.codeIn K cd30 "_law_is" = true) (k30 : PySem.W.keepIn K (.ref f__law_is) = true)
    {f__law_round_holds : Addr} {od31 an31 : Option Addr} {sl31 : Array (Option Value)} {oc31 kV31 dc31 pm31 cd31 ct31 : Value}
    (a31 : PySem.W.nsIn K mainGlobals "_law_round_holds" = some (some (.ref f__law_round_holds))) (l31 : K.lookup f__law_round_holds = some ⟨oc31, od31, .func (PySem.W.fnOf "_law_round_holds" "_law_round_holds" (defArgs S__law_round_holds) (defBody S__law_round_holds) (defScope S__law_round_holds) .none kV31 dc31 pm31 an31 cd31 ct31), sl31⟩) (c31 : PySem.W.codeIn K cd31 "_law_round_holds" = true) (k31 : PySem.W.keepIn K (.ref f__law_round_holds) = true)
    {f__law_often_holds : Addr} {od32 an32 : Option Addr} {sl32 : Array (Option Value)} {oc32 kV32 dc32 pm32 cd32 ct32 : Value}
    (a32 : PySem.W.nsIn K mainGlobals "_law_often_holds" = some (some (.ref f__law_often_holds))) (l32 : K.lookup f__law_often_holds = some ⟨oc32, od32, .func (PySem.W.fnOf "_law_often_holds" "_law_often_holds" (defArgs S__law_often_holds) (defBody S__law_often_holds) (defScope S__law_often_holds) .none kV32 dc32 pm32 an32 cd32 ct32), sl32⟩) (c32 : PySem.W.codeIn K cd32 "_law_often_holds" = true) (k32 : PySem.W.keepIn K (.ref f__law_often_holds) = true)
    {f__law_right : Addr} {od33 an33 : Option Addr} {sl33 : Array (Option Value)} {oc33 kV33 dc33 pm33 cd33 ct33 : Value}
    (a33 : PySem.W.nsIn K mainGlobals "_law_right" = some (some (.ref f__law_right))) (l33 : K.lookup f__law_right = some ⟨oc33, od33, .func (PySem.W.fnOf "_law_right" "_law_right" (defArgs S__law_right) (defBody S__law_right) (defScope S__law_right) .none kV33 dc33 pm33 an33 cd33 ct33), sl33⟩) (c33 : PySem.W.codeIn K cd33 "_law_right" = true) (k33 : PySem.W.keepIn K (.ref f__law_right) = true)
    {f_law : Addr} {od34 an34 : Option Addr} {sl34 : Array (Option Value)} {oc34 kV34 dc34 pm34 cd34 ct34 : Value}
    (a34 : PySem.W.nsIn K mainGlobals "law" = some (some (.ref f_law))) (l34 : K.lookup f_law = some ⟨oc34, od34, .func (PySem.W.fnOf "law" "law" (defArgs S_law) (defBody S_law) (defScope S_law) .none kV34 dc34 pm34 an34 cd34 ct34), sl34⟩) (c34 : PySem.W.codeIn K cd34 "law" = true) (k34 : PySem.W.keepIn K (.ref f_law) = true)
    (z0 : PySem.W.nsIn K mainGlobals "isinstance" = some none)
    (z1 : PySem.W.nsIn K mainGlobals "int" = some none)
    (z2 : PySem.W.nsIn K mainGlobals "bool" = some none)
    (z3 : PySem.W.nsIn K mainGlobals "tuple" = some none)
    (z4 : PySem.W.nsIn K mainGlobals "len" = some none)
    (z5 : PySem.W.nsIn K mainGlobals "list" = some none)
    (z6 : PySem.W.nsIn K mainGlobals "zip" = some none)
    (z7 : PySem.W.nsIn K mainGlobals "abs" = some none)
    (z8 : PySem.W.nsIn K mainGlobals "max" = some none)
    (z9 : PySem.W.nsIn K mainGlobals "range" = some none)
    (z10 : PySem.W.nsIn K mainGlobals "divmod" = some none)
    (z11 : PySem.W.nsIn K mainGlobals "sorted" = some none)
    (z12 : PySem.W.nsIn K mainGlobals "set" = some none)
    (z13 : PySem.W.nsIn K mainGlobals "min" = some none)
    (z14 : PySem.W.nsIn K mainGlobals "enumerate" = some none)
    : ∃ fd : FuncData, (∀ (s : Shared) (v : Value), BindsTo s fd ⟨[v], []⟩ [("_law_script", v)]) ∧ ∀ base : Heap, K.In base → base.Ns mainGlobals mg → FnOk l.prog w K mg base CX0 9 fa fd ["_law_script"] (sp_law K) := by
  have e := hfa.symm.trans (PySem.W.mg_of X G a34)
  cases e
  have F_is_whole := fun_mk (st := S_is_whole) l0 c0 k0
  have F_are_marks := fun_mk (st := S_are_marks) l1 c1 k1
  have F_is_part := fun_mk (st := S_is_part) l2 c2 k2
  have F_check_train := fun_mk (st := S_check_train) l3 c3 k3
  have F_place_count := fun_mk (st := S_place_count) l4 c4 k4
  have F_is_stand := fun_mk (st := S_is_stand) l5 c5 k5
  have F_check_stand := fun_mk (st := S_check_stand) l6 c6 k6
  have F_is_way := fun_mk (st := S_is_way) l7 c7 k7
  have F_is_deed := fun_mk (st := S_is_deed) l8 c8 k8
  have F_check_row := fun_mk (st := S_check_row) l9 c9 k9
  have F_marks_up_to := fun_mk (st := S_marks_up_to) l10 c10 k10
  have F_marks_ahead := fun_mk (st := S_marks_ahead) l11 c11 k11
  have F_wheel_turned := fun_mk (st := S_wheel_turned) l12 c12 k12
  have F_rocker_turned := fun_mk (st := S_rocker_turned) l13 c13 k13
  have F_spring_turned := fun_mk (st := S_spring_turned) l14 c14 k14
  have F_part_turned := fun_mk (st := S_part_turned) l15 c15 k15
  have F_row_left := fun_mk (st := S_row_left) l16 c16 k16
  have F_left := fun_mk (st := S_left) l17 c17 k17
  have F_check_count := fun_mk (st := S_check_count) l18 c18 k18
  have F_left_often := fun_mk (st := S_left_often) l19 c19 k19
  have F__law_draws := fun_mk (st := S__law_draws) l20 c20 k20
  have F__law_next := fun_mk (st := S__law_next) l21 c21 k21
  have F__law_far := fun_mk (st := S__law_far) l22 c22 k22
  have F__law_wheel := fun_mk (st := S__law_wheel) l23 c23 k23
  have F__law_behind := fun_mk (st := S__law_behind) l24 c24 k24
  have F__law_places := fun_mk (st := S__law_places) l25 c25 k25
  have F__law_deed := fun_mk (st := S__law_deed) l26 c26 k26
  have F__law_net := fun_mk (st := S__law_net) l27 c27 k27
  have F__law_due := fun_mk (st := S__law_due) l28 c28 k28
  have F__law_rows := fun_mk (st := S__law_rows) l29 c29 k29
  have F__law_is := fun_mk (st := S__law_is) l30 c30 k30
  have F__law_round_holds := fun_mk (st := S__law_round_holds) l31 c31 k31
  have F__law_often_holds := fun_mk (st := S__law_often_holds) l32 c32 k32
  have F__law_right := fun_mk (st := S__law_right) l33 c33 k33
  have F_law := fun_mk (st := S_law) l34 c34 k34
  have m_isinstance := PySem.W.mg_none_of X G z0
  have m_int := PySem.W.mg_none_of X G z1
  have m_bool := PySem.W.mg_none_of X G z2
  have m_tuple := PySem.W.mg_none_of X G z3
  have m_len := PySem.W.mg_none_of X G z4
  have m_list := PySem.W.mg_none_of X G z5
  have m_zip := PySem.W.mg_none_of X G z6
  have m_abs := PySem.W.mg_none_of X G z7
  have m_max := PySem.W.mg_none_of X G z8
  have m_range := PySem.W.mg_none_of X G z9
  have m_divmod := PySem.W.mg_none_of X G z10
  have m_sorted := PySem.W.mg_none_of X G z11
  have m_set := PySem.W.mg_none_of X G z12
  have m_min := PySem.W.mg_none_of X G z13
  have m_enumerate := PySem.W.mg_none_of X G z14
  have b_is_whole := F_is_whole.binds (ps := ["thing"]) fun _ _ _ _ _ _ us hl => match us, hl with | [_], _ => rfl
  have g_is_whole := PySem.W.mg_of X G a0
  have b_are_marks := F_are_marks.binds (ps := ["thing", "teeth"]) fun _ _ _ _ _ _ us hl => match us, hl with | [_, _], _ => rfl
  have g_are_marks := PySem.W.mg_of X G a1
  have b_is_part := F_is_part.binds (ps := ["thing"]) fun _ _ _ _ _ _ us hl => match us, hl with | [_], _ => rfl
  have g_is_part := PySem.W.mg_of X G a2
  have b_check_train := F_check_train.binds (ps := ["train"]) fun _ _ _ _ _ _ us hl => match us, hl with | [_], _ => rfl
  have g_check_train := PySem.W.mg_of X G a3
  have b_place_count := F_place_count.binds (ps := ["part"]) fun _ _ _ _ _ _ us hl => match us, hl with | [_], _ => rfl
  have g_place_count := PySem.W.mg_of X G a4
  have b_is_stand := F_is_stand.binds (ps := ["train", "thing"]) fun _ _ _ _ _ _ us hl => match us, hl with | [_, _], _ => rfl
  have g_is_stand := PySem.W.mg_of X G a5
  have b_check_stand := F_check_stand.binds (ps := ["train", "stand"]) fun _ _ _ _ _ _ us hl => match us, hl with | [_, _], _ => rfl
  have g_check_stand := PySem.W.mg_of X G a6
  have b_is_way := F_is_way.binds (ps := ["thing"]) fun _ _ _ _ _ _ us hl => match us, hl with | [_], _ => rfl
  have g_is_way := PySem.W.mg_of X G a7
  have b_is_deed := F_is_deed.binds (ps := ["thing", "parts"]) fun _ _ _ _ _ _ us hl => match us, hl with | [_, _], _ => rfl
  have g_is_deed := PySem.W.mg_of X G a8
  have b_check_row := F_check_row.binds (ps := ["train", "row"]) fun _ _ _ _ _ _ us hl => match us, hl with | [_, _], _ => rfl
  have g_check_row := PySem.W.mg_of X G a9
  have b_marks_up_to := F_marks_up_to.binds (ps := ["marks", "place"]) fun _ _ _ _ _ _ us hl => match us, hl with | [_, _], _ => rfl
  have g_marks_up_to := PySem.W.mg_of X G a10
  have b_marks_ahead := F_marks_ahead.binds (ps := ["part", "tooth"]) fun _ _ _ _ _ _ us hl => match us, hl with | [_, _], _ => rfl
  have g_marks_ahead := PySem.W.mg_of X G a11
  have b_wheel_turned := F_wheel_turned.binds (ps := ["part", "place", "way", "times"]) fun _ _ _ _ _ _ us hl => match us, hl with | [_, _, _, _], _ => rfl
  have g_wheel_turned := PySem.W.mg_of X G a12
  have b_rocker_turned := F_rocker_turned.binds (ps := ["place", "way", "times"]) fun _ _ _ _ _ _ us hl => match us, hl with | [_, _, _], _ => rfl
  have g_rocker_turned := PySem.W.mg_of X G a13
  have b_spring_turned := F_spring_turned.binds (ps := ["part", "place", "way", "times"]) fun _ _ _ _ _ _ us hl => match us, hl with | [_, _, _, _], _ => rfl
  have g_spring_turned := PySem.W.mg_of X G a14
  have b_part_turned := F_part_turned.binds (ps := ["part", "place", "way", "times"]) fun _ _ _ _ _ _ us hl => match us, hl with | [_, _, _, _], _ => rfl
  have g_part_turned := PySem.W.mg_of X G a15
  have b_row_left := F_row_left.binds (ps := ["train", "stand", "row"]) fun _ _ _ _ _ _ us hl => match us, hl with | [_, _, _], _ => rfl
  have g_row_left := PySem.W.mg_of X G a16
  have b_left := F_left.binds (ps := ["train", "stand", "row"]) fun _ _ _ _ _ _ us hl => match us, hl with | [_, _, _], _ => rfl
  have g_left := PySem.W.mg_of X G a17
  have b_check_count := F_check_count.binds (ps := ["times"]) fun _ _ _ _ _ _ us hl => match us, hl with | [_], _ => rfl
  have g_check_count := PySem.W.mg_of X G a18
  have b_left_often := F_left_often.binds (ps := ["train", "stand", "row", "times"]) fun _ _ _ _ _ _ us hl => match us, hl with | [_, _, _, _], _ => rfl
  have g_left_often := PySem.W.mg_of X G a19
  have b__law_draws := F__law_draws.binds (ps := ["_law_cell"]) fun _ _ _ _ _ _ us hl => match us, hl with | [_], _ => rfl
  have g__law_draws := PySem.W.mg_of X G a20
  have b__law_next := F__law_next.binds (ps := ["_law_draws_here"]) fun _ _ _ _ _ _ us hl => match us, hl with | [_], _ => rfl
  have g__law_next := PySem.W.mg_of X G a21
  have b__law_far := F__law_far.binds (ps := ["_law_draws_here", "_law_most"]) fun _ _ _ _ _ _ us hl => match us, hl with | [_, _], _ => rfl
  have g__law_far := PySem.W.mg_of X G a22
  have b__law_wheel := F__law_wheel.binds (ps := ["_law_draws_here"]) fun _ _ _ _ _ _ us hl => match us, hl with | [_], _ => rfl
  have g__law_wheel := PySem.W.mg_of X G a23
  have b__law_behind := F__law_behind.binds (ps := ["_law_draws_here", "_law_many"]) fun _ _ _ _ _ _ us hl => match us, hl with | [_, _], _ => rfl
  have g__law_behind := PySem.W.mg_of X G a24
  have b__law_places := F__law_places.binds (ps := ["_law_part"]) fun _ _ _ _ _ _ us hl => match us, hl with | [_], _ => rfl
  have g__law_places := PySem.W.mg_of X G a25
  have b__law_deed := F__law_deed.binds (ps := ["_law_draws_here", "_law_train"]) fun _ _ _ _ _ _ us hl => match us, hl with | [_, _], _ => rfl
  have g__law_deed := PySem.W.mg_of X G a26
  have b__law_net := F__law_net.binds (ps := ["_law_train", "_law_row"]) fun _ _ _ _ _ _ us hl => match us, hl with | [_, _], _ => rfl
  have g__law_net := PySem.W.mg_of X G a27
  have b__law_due := F__law_due.binds (ps := ["_law_wheels", "_law_stand", "_law_net_here", "_law_many"]) fun _ _ _ _ _ _ us hl => match us, hl with | [_, _, _, _], _ => rfl
  have g__law_due := PySem.W.mg_of X G a28
  have b__law_rows := F__law_rows.binds (ps := ["_law_draws_here", "_law_train", "_law_row"]) fun _ _ _ _ _ _ us hl => match us, hl with | [_, _, _], _ => rfl
  have g__law_rows := PySem.W.mg_of X G a29
  have b__law_is := F__law_is.binds (ps := ["_law_train", "_law_wheels", "_law_got", "_law_due_here"]) fun _ _ _ _ _ _ us hl => match us, hl with | [_, _, _, _], _ => rfl
  have g__law_is := PySem.W.mg_of X G a30
  have b__law_round_holds := F__law_round_holds.binds (ps := ["_law_train", "_law_stand", "_law_i", "_law_way"]) fun _ _ _ _ _ _ us hl => match us, hl with | [_, _, _, _], _ => rfl
  have g__law_round_holds := PySem.W.mg_of X G a31
  have b__law_often_holds := F__law_often_holds.binds (ps := ["_law_draws_here", "_law_train", "_law_wheels", "_law_stand", "_law_row"]) fun _ _ _ _ _ _ us hl => match us, hl with | [_, _, _, _, _], _ => rfl
  have g__law_often_holds := PySem.W.mg_of X G a32
  have b__law_right := F__law_right.binds (ps := ["_law_draws_here", "_law_train", "_law_wheels", "_law_stand"]) fun _ _ _ _ _ _ us hl => match us, hl with | [_, _, _, _], _ => rfl
  have g__law_right := PySem.W.mg_of X G a33
  refine ⟨PySem.W.fnOf "law" "law" (defArgs S_law) (defBody S_law) (defScope S_law) .none kV34 dc34 pm34 an34 cd34 ct34, fun s v => .of_eq rfl, fun base _ _ => ?_⟩
  have G_is_whole : FnOk l.prog w K mg base CX0 1 _ _ ["thing"] (sp_is_whole K) := ok_is_whole F_is_whole  m_isinstance m_int m_bool   
  have G_are_marks : FnOk l.prog w K mg base CX0 2 _ _ ["thing", "teeth"] (sp_are_marks K) := ok_are_marks F_are_marks F_is_whole b_is_whole g_is_whole G_is_whole m_isinstance m_tuple   
  have G_is_part : FnOk l.prog w K mg base CX0 3 _ _ ["thing"] (sp_is_part K) := ok_is_part F_is_part F_is_whole b_is_whole g_is_whole G_is_whole F_are_marks b_are_marks g_are_marks G_are_marks m_isinstance m_tuple m_len   
  have G_check_train : FnOk l.prog w K mg base CX0 4 _ _ ["train"] (sp_check_train K) := ok_check_train F_check_train F_is_part b_is_part g_is_part G_is_part m_isinstance m_list m_len   
  have G_place_count : FnOk l.prog w K mg base CX0 1 _ _ ["part"] (sp_place_count K) := ok_place_count F_place_count     
  have G_is_stand : FnOk l.prog w K mg base CX0 2 _ _ ["train", "thing"] (sp_is_stand K) := ok_is_stand F_is_stand F_place_count b_place_count g_place_count G_place_count F_is_whole b_is_whole g_is_whole G_is_whole m_zip m_isinstance m_tuple m_len   
  have G_check_stand : FnOk l.prog w K mg base CX0 5 _ _ ["train", "stand"] (sp_check_stand K) := ok_check_stand F_check_stand F_is_stand b_is_stand g_is_stand G_is_stand F_check_train b_check_train g_check_train G_check_train    
  have G_is_way : FnOk l.prog w K mg base CX0 2 _ _ ["thing"] (sp_is_way K) := ok_is_way F_is_way F_is_whole b_is_whole g_is_whole G_is_whole    
  have G_is_deed : FnOk l.prog w K mg base CX0 3 _ _ ["thing", "parts"] (sp_is_deed K) := ok_is_deed F_is_deed F_is_whole b_is_whole g_is_whole G_is_whole F_is_way b_is_way g_is_way G_is_way m_isinstance m_tuple m_len   
  have G_check_row : FnOk l.prog w K mg base CX0 4 _ _ ["train", "row"] (sp_check_row K) := ok_check_row F_check_row F_is_deed b_is_deed g_is_deed G_is_deed m_isinstance m_list m_len   
  have G_marks_up_to : FnOk l.prog w K mg base CX0 1 _ _ ["marks", "place"] (sp_marks_up_to K) := ok_marks_up_to F_marks_up_to  m_len   
  have G_marks_ahead : FnOk l.prog w K mg base CX0 2 _ _ ["part", "tooth"] (sp_marks_ahead K) := ok_marks_ahead F_marks_ahead F_marks_up_to b_marks_up_to g_marks_up_to G_marks_up_to m_len   
  have G_wheel_turned : FnOk l.prog w K mg base CX0 3 _ _ ["part", "place", "way", "times"] (sp_wheel_turned K) := ok_wheel_turned F_wheel_turned F_marks_ahead b_marks_ahead g_marks_ahead G_marks_ahead m_abs   
  have G_rocker_turned : FnOk l.prog w K mg base CX0 1 _ _ ["place", "way", "times"] (sp_rocker_turned K) := ok_rocker_turned F_rocker_turned     
  have G_spring_turned : FnOk l.prog w K mg base CX0 1 _ _ ["part", "place", "way", "times"] (sp_spring_turned K) := ok_spring_turned F_spring_turned  m_max   
  have G_part_turned : FnOk l.prog w K mg base CX0 4 _ _ ["part", "place", "way", "times"] (sp_part_turned K) := ok_part_turned F_part_turned F_spring_turned b_spring_turned g_spring_turned G_spring_turned F_rocker_turned b_rocker_turned g_rocker_turned G_rocker_turned F_wheel_turned b_wheel_turned g_wheel_turned G_wheel_turned    
  have G_row_left : FnOk l.prog w K mg base CX0 5 _ _ ["train", "stand", "row"] (sp_row_left K) := ok_row_left F_row_left F_part_turned b_part_turned g_part_turned G_part_turned m_list m_range m_tuple m_len   
  have G_left : FnOk l.prog w K mg base CX0 6 _ _ ["train", "stand", "row"] (sp_left K) := ok_left F_left F_row_left b_row_left g_row_left G_row_left F_check_row b_check_row g_check_row G_check_row F_check_stand b_check_stand g_check_stand G_check_stand    
  have G_check_count : FnOk l.prog w K mg base CX0 2 _ _ ["times"] (sp_check_count K) := ok_check_count F_check_count F_is_whole b_is_whole g_is_whole G_is_whole    
  have G_left_often : FnOk l.prog w K mg base CX0 6 _ _ ["train", "stand", "row", "times"] (sp_left_often K) := ok_left_often F_left_often F_row_left b_row_left g_row_left G_row_left F_check_count b_check_count g_check_count G_check_count F_check_row b_check_row g_check_row G_check_row F_check_stand b_check_stand g_check_stand G_check_stand m_divmod m_len   
  have G__law_draws : FnOk l.prog w K mg base CX0 1 _ _ ["_law_cell"] (sp__law_draws K) := ok__law_draws F__law_draws     
  have G__law_next : FnOk l.prog w K mg base CX0 1 _ _ ["_law_draws_here"] (sp__law_next K) := ok__law_next F__law_next     
  have G__law_far : FnOk l.prog w K mg base CX0 2 _ _ ["_law_draws_here", "_law_most"] (sp__law_far K) := ok__law_far F__law_far F__law_next b__law_next g__law_next G__law_next m_range   
  have G__law_wheel : FnOk l.prog w K mg base CX0 3 _ _ ["_law_draws_here"] (sp__law_wheel K) := ok__law_wheel F__law_wheel F__law_next b__law_next g__law_next G__law_next F__law_far b__law_far g__law_far G__law_far m_tuple m_range m_sorted m_set   
  have G__law_behind : FnOk l.prog w K mg base CX0 4 _ _ ["_law_draws_here", "_law_many"] (sp__law_behind K) := ok__law_behind F__law_behind F__law_next b__law_next g__law_next G__law_next F__law_wheel b__law_wheel g__law_wheel G__law_wheel m_range m_min   
  have G__law_places : FnOk l.prog w K mg base CX0 1 _ _ ["_law_part"] (sp__law_places K) := ok__law_places F__law_places  m_int   
  have G__law_deed : FnOk l.prog w K mg base CX0 3 _ _ ["_law_draws_here", "_law_train"] (sp__law_deed K) := ok__law_deed F__law_deed F__law_far b__law_far g__law_far G__law_far F__law_next b__law_next g__law_next G__law_next m_len   
  have G__law_net : FnOk l.prog w K mg base CX0 1 _ _ ["_law_train", "_law_row"] (sp__law_net K) := ok__law_net F__law_net  m_len   
  have G__law_due : FnOk l.prog w K mg base CX0 1 _ _ ["_law_wheels", "_law_stand", "_law_net_here", "_law_many"] (sp__law_due K) := ok__law_due F__law_due  m_zip m_tuple   
  have G__law_rows : FnOk l.prog w K mg base CX0 4 _ _ ["_law_draws_here", "_law_train", "_law_row"] (sp__law_rows K) := ok__law_rows F__law_rows F__law_next b__law_next g__law_next G__law_next F__law_deed b__law_deed g__law_deed G__law_deed F__law_far b__law_far g__law_far G__law_far F__law_net b__law_net g__law_net G__law_net m_list m_sorted m_abs m_enumerate m_int m_len   
  have G__law_is : FnOk l.prog w K mg base CX0 1 _ _ ["_law_train", "_law_wheels", "_law_got", "_law_due_here"] (sp__law_is K) := ok__law_is F__law_is  m_len m_isinstance m_tuple m_bool m_int   
  have G__law_round_holds : FnOk l.prog w K mg base CX0 7 _ _ ["_law_train", "_law_stand", "_law_i", "_law_way"] (sp__law_round_holds K) := ok__law_round_holds F__law_round_holds F_left b_left g_left G_left m_len   
  have G__law_often_holds : FnOk l.prog w K mg base CX0 7 _ _ ["_law_draws_here", "_law_train", "_law_wheels", "_law_stand", "_law_row"] (sp__law_often_holds K) := ok__law_often_holds F__law_often_holds F_left_often b_left_often g_left_often G_left_often F__law_is b__law_is g__law_is G__law_is F__law_net b__law_net g__law_net G__law_net F__law_due b__law_due g__law_due G__law_due F__law_far b__law_far g__law_far G__law_far F__law_places b__law_places g__law_places G__law_places    
  have G__law_right : FnOk l.prog w K mg base CX0 8 _ _ ["_law_draws_here", "_law_train", "_law_wheels", "_law_stand"] (sp__law_right K) := ok__law_right F__law_right F__law_often_holds b__law_often_holds g__law_often_holds G__law_often_holds F_left b_left g_left G_left F__law_is b__law_is g__law_is G__law_is F__law_next b__law_next g__law_next G__law_next F__law_rows b__law_rows g__law_rows G__law_rows F__law_net b__law_net g__law_net G__law_net F__law_due b__law_due g__law_due G__law_due F__law_deed b__law_deed g__law_deed G__law_deed m_range m_list m_len   
  exact ok_law F_law F__law_next b__law_next g__law_next G__law_next F__law_round_holds b__law_round_holds g__law_round_holds G__law_round_holds F__law_right b__law_right g__law_right G__law_right F__law_places b__law_places g__law_places G__law_places F__law_far b__law_far g__law_far G__law_far F__law_behind b__law_behind g__law_behind G__law_behind F__law_wheel b__law_wheel g__law_wheel G__law_wheel F__law_draws b__law_draws g__law_draws G__law_draws m_tuple m_len m_range   
end My
open PySem PySem.W PyProof.Rows
set_option maxHeartbeats 0 in
theorem PySem.Challenge.cw_clicktrain_k09_whole_wheels_go_by_net_pu_holds : PySem.Challenge.rw_clicktrain_k09_whole_wheels_go_by_net_pu.Holds := by
  w_on; o_law; k_head; (case hw => w_witness2)
  k_fill
  refine L2.walk_of (l := PySem.Challenge.rw_clicktrain_k09_whole_wheels_go_by_net_pu) (n := 63) (k := 9) (x := "_law_script") (CX := fun _ => L2.CX0) (sp := fun w => My.sp_law _) rfl (by decide) rfl ⟨rfl, by decide, by decide⟩ (fun w h Y => PySem.W.kIn_of Y) ?F (fun _ _ a ns hl _ hS => ⟨a, ns, rfl, hS, hl, fun _ => rfl⟩) (fun _ _ _ _ _ h => h)
  case F =>
    intro w mg fa h KX G hmg
    refine' My.all_mk KX G hmg ?a0 ?l0 ?c0 ?k0 ?a1 ?l1 ?c1 ?k1 ?a2 ?l2 ?c2 ?k2 ?a3 ?l3 ?c3 ?k3 ?a4 ?l4 ?c4 ?k4 ?a5 ?l5 ?c5 ?k5 ?a6 ?l6 ?c6 ?k6 ?a7 ?l7 ?c7 ?k7 ?a8 ?l8 ?c8 ?k8 ?a9 ?l9 ?c9 ?k9 ?a10 ?l10 ?c10 ?k10 ?a11 ?l11 ?c11 ?k11 ?a12 ?l12 ?c12 ?k12 ?a13 ?l13 ?c13 ?k13 ?a14 ?l14 ?c14 ?k14 ?a15 ?l15 ?c15 ?k15 ?a16 ?l16 ?c16 ?k16 ?a17 ?l17 ?c17 ?k17 ?a18 ?l18 ?c18 ?k18 ?a19 ?l19 ?c19 ?k19 ?a20 ?l20 ?c20 ?k20 ?a21 ?l21 ?c21 ?k21 ?a22 ?l22 ?c22 ?k22 ?a23 ?l23 ?c23 ?k23 ?a24 ?l24 ?c24 ?k24 ?a25 ?l25 ?c25 ?k25 ?a26 ?l26 ?c26 ?k26 ?a27 ?l27 ?c27 ?k27 ?a28 ?l28 ?c28 ?k28 ?a29 ?l29 ?c29 ?k29 ?a30 ?l30 ?c30 ?k30 ?a31 ?l31 ?c31 ?k31 ?a32 ?l32 ?c32 ?k32 ?a33 ?l33 ?c33 ?k33 ?a34 ?l34 ?c34 ?k34 ?z0 ?z1 ?z2 ?z3 ?z4 ?z5 ?z6 ?z7 ?z8 ?z9 ?z10 ?z11 ?z12 ?z13 ?z14
    (case a0 => k_is)
    (case l0 => k_is)
    (case c0 => k_is)
    (case k0 => k_is)
    (case a1 => k_is)
    (case l1 => k_is)
    (case c1 => k_is)
    (case k1 => k_is)
    (case a2 => k_is)
    (case l2 => k_is)
    (case c2 => k_is)
    (case k2 => k_is)
    (case a3 => k_is)
    (case l3 => k_is)
    (case c3 => k_is)
    (case k3 => k_is)
    (case a4 => k_is)
    (case l4 => k_is)
    (case c4 => k_is)
    (case k4 => k_is)
    (case a5 => k_is)
    (case l5 => k_is)
    (case c5 => k_is)
    (case k5 => k_is)
    (case a6 => k_is)
    (case l6 => k_is)
    (case c6 => k_is)
    (case k6 => k_is)
    (case a7 => k_is)
    (case l7 => k_is)
    (case c7 => k_is)
    (case k7 => k_is)
    (case a8 => k_is)
    (case l8 => k_is)
    (case c8 => k_is)
    (case k8 => k_is)
    (case a9 => k_is)
    (case l9 => k_is)
    (case c9 => k_is)
    (case k9 => k_is)
    (case a10 => k_is)
    (case l10 => k_is)
    (case c10 => k_is)
    (case k10 => k_is)
    (case a11 => k_is)
    (case l11 => k_is)
    (case c11 => k_is)
    (case k11 => k_is)
    (case a12 => k_is)
    (case l12 => k_is)
    (case c12 => k_is)
    (case k12 => k_is)
    (case a13 => k_is)
    (case l13 => k_is)
    (case c13 => k_is)
    (case k13 => k_is)
    (case a14 => k_is)
    (case l14 => k_is)
    (case c14 => k_is)
    (case k14 => k_is)
    (case a15 => k_is)
    (case l15 => k_is)
    (case c15 => k_is)
    (case k15 => k_is)
    (case a16 => k_is)
    (case l16 => k_is)
    (case c16 => k_is)
    (case k16 => k_is)
    (case a17 => k_is)
    (case l17 => k_is)
    (case c17 => k_is)
    (case k17 => k_is)
    (case a18 => k_is)
    (case l18 => k_is)
    (case c18 => k_is)
    (case k18 => k_is)
    (case a19 => k_is)
    (case l19 => k_is)
    (case c19 => k_is)
    (case k19 => k_is)
    (case a20 => k_is)
    (case l20 => k_is)
    (case c20 => k_is)
    (case k20 => k_is)
    (case a21 => k_is)
    (case l21 => k_is)
    (case c21 => k_is)
    (case k21 => k_is)
    (case a22 => k_is)
    (case l22 => k_is)
    (case c22 => k_is)
    (case k22 => k_is)
    (case a23 => k_is)
    (case l23 => k_is)
    (case c23 => k_is)
    (case k23 => k_is)
    (case a24 => k_is)
    (case l24 => k_is)
    (case c24 => k_is)
    (case k24 => k_is)
    (case a25 => k_is)
    (case l25 => k_is)
    (case c25 => k_is)
    (case k25 => k_is)
    (case a26 => k_is)
    (case l26 => k_is)
    (case c26 => k_is)
    (case k26 => k_is)
    (case a27 => k_is)
    (case l27 => k_is)
    (case c27 => k_is)
    (case k27 => k_is)
    (case a28 => k_is)
    (case l28 => k_is)
    (case c28 => k_is)
    (case k28 => k_is)
    (case a29 => k_is)
    (case l29 => k_is)
    (case c29 => k_is)
    (case k29 => k_is)
    (case a30 => k_is)
    (case l30 => k_is)
    (case c30 => k_is)
    (case k30 => k_is)
    (case a31 => k_is)
    (case l31 => k_is)
    (case c31 => k_is)
    (case k31 => k_is)
    (case a32 => k_is)
    (case l32 => k_is)
    (case c32 => k_is)
    (case k32 => k_is)
    (case a33 => k_is)
    (case l33 => k_is)
    (case c33 => k_is)
    (case k33 => k_is)
    (case a34 => k_is)
    (case l34 => k_is)
    (case c34 => k_is)
    (case k34 => k_is)
    (case z0 => k_is)
    (case z1 => k_is)
    (case z2 => k_is)
    (case z3 => k_is)
    (case z4 => k_is)
    (case z5 => k_is)
    (case z6 => k_is)
    (case z7 => k_is)
    (case z8 => k_is)
    (case z9 => k_is)
    (case z10 => k_is)
    (case z11 => k_is)
    (case z12 => k_is)
    (case z13 => k_is)
    (case z14 => k_is)
